/- What checkSymbol answers. -/
import Derived.Test.YtpngaeabkmbefaaRight
namespace Go.Proofs.Ytpngaeabkmbefaa
open Go.RowKit

/-- A symbol boxed in a new block, and what came later. -/
theorem box_facts {w w1 : World} {x : Sym} (hb : Below (w.heap.size + 1) (w.alloc (.cells #[.string x.name, .int .i64 x.kind, .int .i64 x.arity, .string x.unit] 42)) w1) :
    w1.cell? ⟨w.heap.size, 0, none⟩ = some (.string x.name) ∧ w1.cell? ⟨w.heap.size, 1, none⟩ = some (.int .i64 x.kind) ∧ w1.cell? ⟨w.heap.size, 2, none⟩ = some (.int .i64 x.arity) ∧ w1.cell? ⟨w.heap.size, 3, none⟩ = some (.string x.unit) ∧ w.heap.size < w1.heap.size ∧ Below w.heap.size w w1 := by
  refine ⟨?_, ?_, ?_, ?_, ?_, ?_⟩
  · rw [hb.cell (p := ⟨w.heap.size, 0, none⟩) (by simp)]; simp [go_sem]
  · rw [hb.cell (p := ⟨w.heap.size, 1, none⟩) (by simp)]; simp [go_sem]
  · rw [hb.cell (p := ⟨w.heap.size, 2, none⟩) (by simp)]; simp [go_sem]
  · rw [hb.cell (p := ⟨w.heap.size, 3, none⟩) (by simp)]; simp [go_sem]
  · have := hb.size; simp at this; omega
  · exact ((Below.refl _ _).alloc (Nat.le_refl _) _).trans (hb.mono (by omega))

def symErr2 (l : List Sym) (x : Sym) : Int :=
  if findB l x.name = true ∨ nameB x.name = false then 11 else if kindB x = false then 12 else if arityB x = false then 13 else if unitB2 l x = false then 14 else 0

set_option maxHeartbeats 1000000 in
theorem checkSymbol_any (a : Option Addr) (n cap : Nat) (l : List Sym) (x : Sym) (w : World) (h : SigAt w a n l) :
    Calls Try.prog 36 #[.slice a n cap, x.val] w fun e w' => e = .returned (.int .i64 (symErr2 l x)) ∧ Below w.heap.size w w' := by
  have HS : Hid (SigAt w a n l) := h
  clear h
  show Calls Try.prog 36 #[.slice a n cap, .agg #[.string x.name, .int .i64 x.kind, .int .i64 x.arity, .string x.unit]] w _
  go_enter Try.func36, Try.ntmps36
  go_wp2_with fail
  refine (sfind_any a n cap l x.name _ (HS.out.below ((Below.refl _ _).alloc (Nat.le_refl _) _))).mono ?_
  rintro e w1 ⟨he, hb⟩
  unfold FindRet at he
  subst he
  have hb1 : Below (w.heap.size + 1) (w.alloc (.cells #[.string x.name, .int .i64 x.kind, .int .i64 x.arity, .string x.unit] 42)) w1 := hb.mono (by simp)
  have HB1 : Hid (Below (w.heap.size + 1) (w.alloc (.cells #[.string x.name, .int .i64 x.kind, .int .i64 x.arity, .string x.unit] 42)) w1) := hb1
  obtain ⟨c0, c1, c2, c3, hz, hbw⟩ := box_facts hb1
  have HW : Hid (Below w.heap.size w w1) := hbw
  clear hb hb1 hbw
  cases hf : findB l x.name
  · go_wp2_with fail
    refine (sname_any x.name _).mono ?_
    rintro e w2 ⟨rfl, hb⟩
    have hb2 : Below (w.heap.size + 1) (w.alloc (.cells #[.string x.name, .int .i64 x.kind, .int .i64 x.arity, .string x.unit] 42)) w2 := HB1.out.trans (hb.mono (by omega))
    have HB2 : Hid (Below (w.heap.size + 1) (w.alloc (.cells #[.string x.name, .int .i64 x.kind, .int .i64 x.arity, .string x.unit] 42)) w2) := hb2
    clear c0 c1 c2 c3 hz
    obtain ⟨c0, c1, c2, c3, hz, hbw⟩ := box_facts hb2
    have HW2 : Hid (Below w.heap.size w w2) := hbw
    clear hb hb2 hbw
    cases hn : nameB x.name
    · go_wp2
      go_ret
      exact ⟨by simp [symErr2, hn], HW2.out⟩
    · cases hkb : kindB x
      · have hk1 : (x.kind != 1) = true := by simp [kindB] at hkb; simp; omega
        have hk2 : (x.kind != 2) = true := by simp [kindB] at hkb; simp; omega
        have hk3 : (x.kind != 3) = true := by simp [kindB] at hkb; simp; omega
        go_wp2
        go_ret
        exact ⟨by simp [symErr2, hf, hn, hkb], HW2.out⟩
      · have hgo : ∀ (k1 k2 k3 : Bool), (x.kind != 1) = k1 → (x.kind != 2) = k2 → (x.kind != 3) = k3 → (k1 && k2 && k3) = false := by
          rintro k1 k2 k3 rfl rfl rfl
          simp [kindB] at hkb
          simp only [Bool.and_eq_false_iff, bne_eq_false_iff_eq]
          omega
        cases hk1 : (x.kind != 1)
        · clear hgo
          go_wp2_with fail
          refine (arity_any x _).mono ?_
          rintro e w3 ⟨rfl, hb⟩
          have hb3 : Below (w.heap.size + 1) (w.alloc (.cells #[.string x.name, .int .i64 x.kind, .int .i64 x.arity, .string x.unit] 42)) w3 := HB2.out.trans (hb.mono (by omega))
          have HB3 : Hid (Below (w.heap.size + 1) (w.alloc (.cells #[.string x.name, .int .i64 x.kind, .int .i64 x.arity, .string x.unit] 42)) w3) := hb3
          clear c0 c1 c2 c3 hz
          obtain ⟨c0, c1, c2, c3, hz, hbw⟩ := box_facts hb3
          have HW3 : Hid (Below w.heap.size w w3) := hbw
          clear hb hb3 hbw
          cases ha : arityB x
          · go_wp2
            go_ret
            exact ⟨by simp [symErr2, hf, hn, hkb, ha], HW3.out⟩
          · go_wp2_with fail
            refine (unit_any a n cap l x _ (HS.out.below HW3.out)).mono ?_
            rintro e w4 ⟨rfl, hb⟩
            have hb4 : Below (w.heap.size + 1) (w.alloc (.cells #[.string x.name, .int .i64 x.kind, .int .i64 x.arity, .string x.unit] 42)) w4 := HB3.out.trans (hb.mono (by omega))
            have HB4 : Hid (Below (w.heap.size + 1) (w.alloc (.cells #[.string x.name, .int .i64 x.kind, .int .i64 x.arity, .string x.unit] 42)) w4) := hb4
            clear c0 c1 c2 c3 hz
            obtain ⟨c0, c1, c2, c3, hz, hbw⟩ := box_facts hb4
            have HW4 : Hid (Below w.heap.size w w4) := hbw
            clear hb hb4 hbw
            cases hu : unitB2 l x
            · go_wp2
              go_ret
              exact ⟨by simp [symErr2, hf, hn, hkb, ha, hu], HW4.out⟩
            · go_wp2
              go_ret
              exact ⟨by simp [symErr2, hf, hn, hkb, ha, hu], HW4.out⟩
        · cases hk2 : (x.kind != 2)
          · clear hgo
            go_wp2_with fail
            refine (arity_any x _).mono ?_
            rintro e w3 ⟨rfl, hb⟩
            have hb3 : Below (w.heap.size + 1) (w.alloc (.cells #[.string x.name, .int .i64 x.kind, .int .i64 x.arity, .string x.unit] 42)) w3 := HB2.out.trans (hb.mono (by omega))
            have HB3 : Hid (Below (w.heap.size + 1) (w.alloc (.cells #[.string x.name, .int .i64 x.kind, .int .i64 x.arity, .string x.unit] 42)) w3) := hb3
            clear c0 c1 c2 c3 hz
            obtain ⟨c0, c1, c2, c3, hz, hbw⟩ := box_facts hb3
            have HW3 : Hid (Below w.heap.size w w3) := hbw
            clear hb hb3 hbw
            cases ha : arityB x
            · go_wp2
              go_ret
              exact ⟨by simp [symErr2, hf, hn, hkb, ha], HW3.out⟩
            · go_wp2_with fail
              refine (unit_any a n cap l x _ (HS.out.below HW3.out)).mono ?_
              rintro e w4 ⟨rfl, hb⟩
              have hb4 : Below (w.heap.size + 1) (w.alloc (.cells #[.string x.name, .int .i64 x.kind, .int .i64 x.arity, .string x.unit] 42)) w4 := HB3.out.trans (hb.mono (by omega))
              have HB4 : Hid (Below (w.heap.size + 1) (w.alloc (.cells #[.string x.name, .int .i64 x.kind, .int .i64 x.arity, .string x.unit] 42)) w4) := hb4
              clear c0 c1 c2 c3 hz
              obtain ⟨c0, c1, c2, c3, hz, hbw⟩ := box_facts hb4
              have HW4 : Hid (Below w.heap.size w w4) := hbw
              clear hb hb4 hbw
              cases hu : unitB2 l x
              · go_wp2
                go_ret
                exact ⟨by simp [symErr2, hf, hn, hkb, ha, hu], HW4.out⟩
              · go_wp2
                go_ret
                exact ⟨by simp [symErr2, hf, hn, hkb, ha, hu], HW4.out⟩
          · have hk3 : (x.kind != 3) = false := by
              cases hk3 : (x.kind != 3)
              · rfl
              · exact absurd (hgo _ _ _ hk1 hk2 hk3) (by simp)
            clear hgo
            go_wp2_with fail
            refine (arity_any x _).mono ?_
            rintro e w3 ⟨rfl, hb⟩
            have hb3 : Below (w.heap.size + 1) (w.alloc (.cells #[.string x.name, .int .i64 x.kind, .int .i64 x.arity, .string x.unit] 42)) w3 := HB2.out.trans (hb.mono (by omega))
            have HB3 : Hid (Below (w.heap.size + 1) (w.alloc (.cells #[.string x.name, .int .i64 x.kind, .int .i64 x.arity, .string x.unit] 42)) w3) := hb3
            clear c0 c1 c2 c3 hz
            obtain ⟨c0, c1, c2, c3, hz, hbw⟩ := box_facts hb3
            have HW3 : Hid (Below w.heap.size w w3) := hbw
            clear hb hb3 hbw
            cases ha : arityB x
            · go_wp2
              go_ret
              exact ⟨by simp [symErr2, hf, hn, hkb, ha], HW3.out⟩
            · go_wp2_with fail
              refine (unit_any a n cap l x _ (HS.out.below HW3.out)).mono ?_
              rintro e w4 ⟨rfl, hb⟩
              have hb4 : Below (w.heap.size + 1) (w.alloc (.cells #[.string x.name, .int .i64 x.kind, .int .i64 x.arity, .string x.unit] 42)) w4 := HB3.out.trans (hb.mono (by omega))
              have HB4 : Hid (Below (w.heap.size + 1) (w.alloc (.cells #[.string x.name, .int .i64 x.kind, .int .i64 x.arity, .string x.unit] 42)) w4) := hb4
              clear c0 c1 c2 c3 hz
              obtain ⟨c0, c1, c2, c3, hz, hbw⟩ := box_facts hb4
              have HW4 : Hid (Below w.heap.size w w4) := hbw
              clear hb hb4 hbw
              cases hu : unitB2 l x
              · go_wp2
                go_ret
                exact ⟨by simp [symErr2, hf, hn, hkb, ha, hu], HW4.out⟩
              · go_wp2
                go_ret
                exact ⟨by simp [symErr2, hf, hn, hkb, ha, hu], HW4.out⟩
  · go_wp2
    go_ret
    exact ⟨by simp [symErr2, hf], HW.out⟩
end Go.Proofs.Ytpngaeabkmbefaa
