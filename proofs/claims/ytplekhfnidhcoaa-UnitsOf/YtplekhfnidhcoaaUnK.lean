/- The live question. -/
import Derived.Test.YtplekhfnidhcoaaUnI
namespace Go.Proofs.Ytplekhfnidhcoaa
open Go.RowKit Go.Shelf Go.Deep

theorem two_ints (w : World) (a b : Int) (W : World) (h : Box W w.heap.size 3 #[.int .i64 a, .int .i64 b]) : IntsAt W (some ⟨w.heap.size, 0, none⟩) [a, b] :=
  ⟨by simp [maxLen], fun i hi => ⟨w.heap.size, 0, rfl, by
    match i, hi with
    | 0, _ => exact h.c 0
    | 1, _ => exact h.c 1⟩⟩
theorem two_strs (g : Nat) (a b : ByteArray) (W : World) (h : Box W g 9 #[.string a, .string b]) : StrsAt W (some ⟨g, 0, none⟩) [a, b] :=
  ⟨by simp [maxLen], fun i hi => ⟨g, 0, rfl, by
    match i, hi with
    | 0, _ => exact h.c 0
    | 1, _ => exact h.c 1⟩⟩
theorem way_head : wayO [1, 5] [⟨#[88]⟩, ⟨#[89]⟩] 5 = ([(⟨#[88]⟩, 1), (⟨#[89]⟩, 5)], true) := rfl
theorem many_head : manyO 2 2 100 = 9 := by decide
set_option maxRecDepth 100000 in
set_option maxHeartbeats 4000000 in
theorem head_any (w : World) : Calls Try.prog 8 #[] w fun e w' => e = .returned (.bool true) ∧ Below w.heap.size w w' := by
  have b1 := (Box.new w 3 #[.int .i64 1, .int .i64 5]).over (.cells #[.string ⟨#[88]⟩, .string ⟨#[89]⟩] 9)
  have b2 := Box.new (w.alloc (.cells #[.int .i64 1, .int .i64 5] 3)) 9 #[.string ⟨#[88]⟩, .string ⟨#[89]⟩]
  rw [World.size_alloc] at b2
  have hlow : Below w.heap.size w ((w.alloc (.cells #[.int .i64 1, .int .i64 5] 3)).alloc (.cells #[.string ⟨#[88]⟩, .string ⟨#[89]⟩] 9)) := ((Below.refl _ w).alloc (Nat.le_refl _) _).alloc (by simp) _
  have HC := hid (way_any (some ⟨w.heap.size, 0, none⟩) 2 [1, 5] (some ⟨w.heap.size + 1, 0, none⟩) 2 [⟨#[88]⟩, ⟨#[89]⟩] 5 _ (two_ints w 1 5 _ b1) (two_strs _ _ _ _ b2) (by decide) (by decide) (by unfold Is64; omega))
  rw [way_head] at HC
  have HL := hid hlow
  have HM := hid (fun (p q : Option Addr) (W : World) => many_any p 2 2 q 2 2 100 (by decide) (by decide) (by unfold Is64; omega) W)
  rw [many_head] at HM
  clear b1 b2 hlow
  go_enter Try.func8, Try.ntmps8
  go_wp2_with fail
  refine HC.out.mono ?_
  rintro e w1 ⟨v, rfl, hown, hb⟩
  have HB := hid (HL.out.trans (hb.mono HL.out.size))
  rcases hown.cases with ⟨_, h9⟩ | ⟨g, cap, rfl, _⟩
  · cases h9
  have hat := hown.rd (by simp [maxLen])
  obtain ⟨bb, o, hp, h0⟩ := hat.cells 0 (by simp)
  obtain ⟨bb1, o1, hp1, h1⟩ := hat.cells 1 (by simp)
  cases hp
  cases hp1
  have x0 := h0.var; have x1 := h0.sym; have x2 := h1.sym
  dsimp only [List.getElem_cons_zero, List.getElem_cons_succ] at x0 x1 x2
  clear hat h0 h1 hown HC HL hb
  go_wp2_with fail
  refine (HM.out _ _ _).mono ?_
  rintro e w2 ⟨rfl, rfl⟩
  have HB2 : Hid (Below w.heap.size w ((w1.alloc (.cells #[.int .i64 1, .int .i64 5] 3)).alloc (.cells #[.string ⟨#[88]⟩, .string ⟨#[89]⟩] 9))) := hid (HB.out.trans ((((Below.refl _ w1).alloc (Nat.le_refl _) _).alloc (by simp) _).mono HB.out.size))
  clear x0 x1 x2 HM
  go_wp2
  go_ret
  exact ⟨rfl, HB2.out⟩
end Go.Proofs.Ytplekhfnidhcoaa
