/- What the order, hold and find's closure answer. -/
import Derived.Test.YtlbmamkkbpjafabBNone
import Derived.Defers
import Derived.Recover
import Derived.Laws.Pointers
namespace Go.Proofs.Ytlbmamkkbpjafab
open Go.RowKit Go.Deep

/-- A thing: its key and its mark. -/
abbrev Th := Int × Int
abbrev thV (x : Th) : Value := .agg #[.int .i64 x.1, .int .i64 x.2]
def cmpK (a b : Th) : Int := if a.1 < b.1 then -1 else if b.1 < a.1 then 1 else 0

set_option maxRecDepth 100000 in
set_option maxHeartbeats 1000000 in
theorem byKey_any (a b : Th) (w : World) : Calls Try.prog 5 #[thV a, thV b] w fun e w' => e = .returned (.int .i64 (cmpK a b)) ∧ Below w.heap.size w w' := by
  obtain ⟨ak, am⟩ := a
  obtain ⟨bk, bm⟩ := b
  unfold cmpK
  dsimp only
  have B1 := alloc_below0 w (.cells #[.int .i64 ak, .int .i64 am] 26)
  have L2 := hid (B1.trans ((alloc_below0 (w.alloc (.cells #[.int .i64 ak, .int .i64 am] 26)) (.cells #[.int .i64 bk, .int .i64 bm] 26)).mono B1.size))
  clear B1
  by_cases h1 : ak < bk
  · rw [if_pos h1]
    go_enter Try.func5, Try.ntmps5
    go_wp2
    go_ret
    exact ⟨rfl, L2.out⟩
  · rw [if_neg h1]
    by_cases h2 : bk < ak
    · rw [if_pos h2]
      go_enter Try.func5, Try.ntmps5
      go_wp2
      go_ret
      exact ⟨rfl, L2.out⟩
    · rw [if_neg h2]
      go_enter Try.func5, Try.ntmps5
      go_wp2
      go_ret
      exact ⟨rfl, L2.out⟩

set_option maxRecDepth 100000 in
theorem hold1_none (p : Nat) (w : World) :
    CallsD Try.prog 34 #[.pointer (some ⟨p, 0, none⟩)] .returning w fun r u w' => r = .returned (.tuple #[]) ∧ u = .returning ∧ w' = w := by
  refine callsD_of_wpS Try.func34 rfl fun c₀ cs hu => ?_
  apply wpS_seq
  apply wpS_region
  simp [wpOpsS, go_sem, recoverD, hu, Try.ntmps34, Exit.thenS]
  refine wpS_of_wp ?_
  change Code.wp _ _ _ { tmps := #[.pointer (some ⟨p, 0, none⟩), .nilIface, .bool false], defers := [] } _
  go_wp2
  cases c₀
  simp_all [bodyPostS, results, Try.results34]
theorem results_c1 {fn : Func} {p : Tmp} {tp : TypeId} {P : Program} {tmps : Array Value} {w : World} {a : Addr} {x : Value} (h : fn.results = #[.cell p tp]) (hp : tmps.getD p undef = .pointer (some a))
    (la : (loadVar tp a).run P w = .ok x w) : (results fn tmps).run P w = .ok x w := by
  have hp' : tmps[p]?.getD undef = .pointer (some a) := by simpa using hp
  simp [results, h, hp', asAddr, la]
theorem load_int {w : World} {a : Addr} {x : Int} (h : w.cell? a = some (.int .i64 x)) : (loadVar 3 a).run Try.prog w = .ok (.int .i64 x) w := by simp [go_sem, loadVar, h]

set_option maxRecDepth 100000 in
set_option maxHeartbeats 2000000 in
/-- hold by the order by keys. -/
theorem hold_any (a b : Th) (w : World) : Calls Try.prog 27 #[ordV, thV a, thV b] w fun e w' => e = .returned (.int .i64 (cmpK a b)) ∧ Below w.heap.size w w' := by
  have hmf : ∀ (fn : Fn) (first cap : Array Value) (w : World), (Instr.makeFunc fn first cap).run Try.prog w = .ok (.func fn first cap) w := fun _ _ _ _ => rfl
  obtain ⟨ak, am⟩ := a
  obtain ⟨bk, bm⟩ := b
  have HB := hid fun W => byKey_any (ak, am) (bk, bm) W
  obtain ⟨c, hc⟩ : ∃ c, cmpK (ak, am) (bk, bm) = c := ⟨_, rfl⟩
  rw [hc] at HB ⊢
  clear hc
  dsimp only [thV] at HB ⊢
  go_enter_defers Try.func27, Try.ntmps27
  go_wp2_with fail
  have b1 := alloc_below0 w (.cells #[.int .i64 ak, .int .i64 am] 26)
  have b2 := alloc_below0 (w.alloc (.cells #[.int .i64 ak, .int .i64 am] 26)) (.cells #[.int .i64 bk, .int .i64 bm] 26)
  have b3 := alloc_below0 ((w.alloc (.cells #[.int .i64 ak, .int .i64 am] 26)).alloc (.cells #[.int .i64 bk, .int .i64 bm] 26)) (.cells #[.int .i64 0] 3)
  have hn := World.alloc_heap_new ((w.alloc (.cells #[.int .i64 ak, .int .i64 am] 26)).alloc (.cells #[.int .i64 bk, .int .i64 bm] 26)) (.cells #[.int .i64 0] 3)
  have hs3 : (((w.alloc (.cells #[.int .i64 ak, .int .i64 am] 26)).alloc (.cells #[.int .i64 bk, .int .i64 bm] 26)).alloc (.cells #[.int .i64 0] 3)).heap.size = w.heap.size + 1 + 1 + 1 := by rw [World.size_alloc, World.size_alloc, World.size_alloc]
  rw [World.size_alloc, World.size_alloc] at hn
  have L3 := hid ((b1.trans (b2.mono b1.size)).trans (b3.mono (b1.trans (b2.mono b1.size)).size))
  have HN := hid hn
  clear b1 b2 b3 hn
  generalize ((w.alloc (.cells #[.int .i64 ak, .int .i64 am] 26)).alloc (.cells #[.int .i64 bk, .int .i64 bm] 26)).alloc (.cells #[.int .i64 0] 3) = V at L3 HN hs3 ⊢
  refine (HB.out V).mono ?_
  rintro e w1 ⟨rfl, hb1⟩
  have N1 := hid ((hb1.block _ (by omega)).trans HN.out)
  have L1 := hid (L3.out.trans (hb1.mono L3.out.size))
  have c0 := cell_box (i := 0) N1.out rfl
  have f0 : w1.frozen? ⟨w.heap.size + 1 + 1, 0, none⟩ = false := by simp [World.frozen?, N1.out]
  clear hb1 HN
  go_wp2
  refine leaves_cons (f := 34) (args := #[.pointer (some ⟨w.heap.size + 1 + 1, 0, none⟩)]) (by simp) (by simp [go_sem]) ?_
  refine (hold1_none _ _).mono ?_
  rintro x u w' ⟨rfl, rfl, rfl⟩
  exact ⟨_, results_c1 rfl rfl (load_int (World.cell?_setCell_same _ _ _ c0)), rfl, L1.out.trans ((Below.refl _ w1).setCell (p := ⟨w.heap.size + 1 + 1, 0, none⟩) (by show w.heap.size ≤ w.heap.size + 1 + 1; omega) _)⟩
/-- An item: a thing, so often. -/
abbrev It := Th × Int
abbrev itV (x : It) : Value := .agg #[.int .i64 x.1.1, .int .i64 x.1.2, .int .i64 x.2]
set_option maxRecDepth 100000 in
set_option maxHeartbeats 2000000 in
/-- find's closure. -/
theorem fcmp_any (g : Nat) (y : It) (x : Th) (w : World) (hg : w.cell? ⟨g, 0, none⟩ = some ordV) : Calls Try.prog 26 #[itV y, thV x, .pointer (some ⟨g, 0, none⟩)] w fun e w' => e = .returned (.int .i64 (cmpK y.1 x)) ∧ Below w.heap.size w w' := by
  obtain ⟨⟨yk, ym⟩, yn⟩ := y
  obtain ⟨xk, xm⟩ := x
  have HB := hid fun W => hold_any (yk, ym) (xk, xm) W
  obtain ⟨c, hc⟩ : ∃ c, cmpK (yk, ym) (xk, xm) = c := ⟨_, rfl⟩
  rw [hc] at HB
  dsimp only
  rw [hc]
  clear hc
  dsimp only [thV, itV] at HB ⊢
  have b1 := alloc_below0 w (.cells #[.int .i64 yk, .int .i64 ym, .int .i64 yn] 32)
  have b2 := alloc_below0 (w.alloc (.cells #[.int .i64 yk, .int .i64 ym, .int .i64 yn] 32)) (.cells #[.int .i64 xk, .int .i64 xm] 26)
  have L2 := hid (b1.trans (b2.mono b1.size))
  have g2 := below_cell (b1.trans (b2.mono b1.size)) _ _ hg
  clear b1 b2 hg
  go_enter Try.func26, Try.ntmps26
  go_wp2_with fail
  refine (HB.out _).mono ?_
  rintro e w1 ⟨rfl, hb1⟩
  have L3 := hid (L2.out.trans (hb1.mono L2.out.size))
  clear hb1
  go_wp2
  go_ret
  exact ⟨rfl, L3.out⟩
end Go.Proofs.Ytlbmamkkbpjafab
