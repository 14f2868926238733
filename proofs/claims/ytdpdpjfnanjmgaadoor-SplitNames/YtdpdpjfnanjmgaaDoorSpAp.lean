/- SplitNames' walk. -/
import Derived.Test.YtdpdpjfnanjmgaaDoorSpAk
namespace Go.Proofs.YtdpdpjfnanjmgaaDoor
open Go.RowKit Go.Shelf

theorem six_one : (waysF [6] [1, 1, 1, 1, 1] true).length = 210 := by decide +kernel
theorem six_five : 1000 ≤ (waysF [6, 6, 6, 6, 6] [1, 1, 1, 1, 1] true).length := by
  rw [ways_prod (by decide)]
  simp only [List.map_cons, List.map_nil, List.foldr_cons, List.foldr_nil, six_one]
  decide
theorem three_two : (waysF [3] [1, 2] false).length = 1 := by decide
theorem none_none : (waysF [] [] false).length = 1 := by decide
/-- Two rows of numbers that a statement lays. -/
theorem two_lits (W : World) (l1 l2 : List Nat) (c1 c2 : Array Value) (e1 : (l1.map fun x : Nat => Value.int .i64 (x : Int)).toArray = c1) (e2 : (l2.map fun x : Nat => Value.int .i64 (x : Int)).toArray = c2) (h1 : l1.length ≤ 1000000) (h2 : l2.length ≤ 1000000) : ∃ W1 W2, W.alloc (.cells c1 3) = W1 ∧ W1.alloc (.cells c2 3) = W2 ∧ W1.heap.size = W.heap.size + 1 ∧
    IntsAt W2 (some ⟨W.heap.size, 0, none⟩) (up l1) ∧ IntsAt W2 (some ⟨W.heap.size + 1, 0, none⟩) (up l2) ∧ Below W.heap.size W W2 := by
  subst e1 e2
  refine ⟨_, _, rfl, rfl, World.size_alloc _ _, (ints_new W l1 h1).below (alloc_below0 _ _), ?_, (alloc_below0 _ _).trans ((alloc_below0 _ _).mono (by rw [World.size_alloc]; omega))⟩
  have h := ints_new (W.alloc (.cells (l1.map fun x : Nat => Value.int .i64 (x : Int)).toArray 3)) l2 h2
  rw [World.size_alloc] at h
  exact h
set_option maxRecDepth 100000 in
set_option maxHeartbeats 8000000 in
theorem names_walk (w : World) (hTab : Tab w) : Calls Tryd.prog 3 #[] w fun e w' => e = .returned (.bool true) ∧ Below w.heap.size w w' := by
  have HL := hid (lives_any w hTab)
  have HT := hid hTab
  clear hTab
  go_enter Tryd.func3, Tryd.ntmps3
  go_wp2_with fail
  refine HL.out.mono ?_
  rintro en w1 ⟨rfl, hb1⟩
  obtain ⟨A1, A2, e1, e2, s1, i1, i2, hb2⟩ := two_lits w1 [6, 6, 6, 6, 6] [1, 1, 1, 1, 1] #[.int .i64 6, .int .i64 6, .int .i64 6, .int .i64 6, .int .i64 6] #[.int .i64 1, .int .i64 1, .int .i64 1, .int .i64 1, .int .i64 1] rfl rfl (by decide) (by decide)
  have hbA := hb1.trans (hb2.mono hb1.size)
  have hct := count_any (some ⟨w1.heap.size, 0, none⟩) (some ⟨w1.heap.size + 1, 0, none⟩) 5 5 [6, 6, 6, 6, 6] [1, 1, 1, 1, 1] true 1000 A2 i1 i2 ⟨by decide, by decide, by decide, by decide⟩ (by decide) (HT.out.below hbA)
  rw [Nat.min_eq_right six_five] at hct
  have HCT := hid hct; have HBA := hid hbA; have HI2 := hid i2
  clear hct hbA i1 i2 hb1 hb2 HL
  go_wp2_with fail
  clear e1 e2 s1
  refine HCT.out.mono ?_
  rintro en w3 ⟨rfl, hb3⟩
  have HI3 := hid (HI2.out.below hb3)
  have hb3' := HBA.out.trans (hb3.mono HBA.out.size)
  obtain ⟨B1, B2, e1, e2, s1, i1, i2, hb4⟩ := two_lits w3 [3] [1, 2] #[.int .i64 3] #[.int .i64 1, .int .i64 2] rfl rfl (by decide) (by decide)
  have hbB := hb3'.trans (hb4.mono hb3'.size)
  have hct := count_any (some ⟨w3.heap.size, 0, none⟩) (some ⟨w3.heap.size + 1, 0, none⟩) 1 2 [3] [1, 2] false 9 B2 i1 i2 ⟨by decide, by decide, by decide, by decide⟩ (by decide) (HT.out.below hbB)
  rw [three_two] at hct
  have HI4 := hid (HI3.out.below hb4)
  have HCT := hid hct; have HBB := hid hbB
  clear hct hbB i1 i2 hb3 hb3' hb4 HI3 HI2
  go_wp2_with fail
  clear e1 e2 s1
  refine HCT.out.mono ?_
  rintro en w5 ⟨rfl, hb5⟩
  have HI5 := hid (HI4.out.below hb5)
  have hbC := HBB.out.trans (hb5.mono HBB.out.size)
  have hn : IntsAt w5 none (up []) := ⟨Nat.zero_le _, fun i hi => absurd hi (Nat.not_lt_zero i)⟩
  have hct := count_any none none 0 0 [] [] false 9 w5 hn hn ⟨by decide, by decide, by decide, by decide⟩ (by decide) (HT.out.below hbC)
  rw [none_none] at hct
  have HCT := hid hct; have HBC := hid hbC
  clear hct hbC hn hb5 HI4
  go_wp2_with fail
  refine HCT.out.mono ?_
  rintro en w6 ⟨rfl, hb6⟩
  have HI6 := hid (HI5.out.below hb6)
  have hb6' := HBC.out.trans (hb6.mono HBC.out.size)
  obtain ⟨C1, C2, e1, e2, s1, i1, i2, hb7⟩ := two_lits w6 [7] [1] #[.int .i64 7] #[.int .i64 1] rfl rfl (by decide) (by decide)
  have hk := chk_any (some ⟨w6.heap.size, 0, none⟩) (some ⟨w6.heap.size + 1, 0, none⟩) 1 1 (up [7]) (up [1]) C2 i1 i2
  rw [show chkE (up [7]) (up [1]) = 191 by decide] at hk
  have HCK := hid hk; have HBD := hid (hb6'.trans (hb7.mono hb6'.size)); have HI7 := hid (HI6.out.below hb7)
  clear hk i1 i2 hb6 hb6' hb7 HI5 HI6
  go_wp2_with fail
  refine HCK.out.mono ?_
  rintro en w8 ⟨rfl, hw8⟩
  subst hw8
  clear e1 e2 s1 HCK
  obtain ⟨D1, D2, e1, e2, s1, i1, i2, hb9⟩ := two_lits w8 [1] [0] #[.int .i64 1] #[.int .i64 0] rfl rfl (by decide) (by decide)
  have hk := chk_any (some ⟨w8.heap.size, 0, none⟩) (some ⟨w8.heap.size + 1, 0, none⟩) 1 1 (up [1]) (up [0]) D2 i1 i2
  rw [show chkE (up [1]) (up [0]) = 191 by decide] at hk
  have HCK := hid hk; have HBE := hid (HBD.out.trans (hb9.mono HBD.out.size)); have HI9 := hid (HI7.out.below hb9)
  clear hk i1 i2 hb9 HI7
  go_wp2_with fail
  refine HCK.out.mono ?_
  rintro en w10 ⟨rfl, hw10⟩
  subst hw10
  clear e1 e2 s1 HCK
  obtain ⟨E1, E2, e1, e2, s1, i1, i2, hb11⟩ := two_lits w10 [1, 1, 1, 1, 1, 1] [0] #[.int .i64 1, .int .i64 1, .int .i64 1, .int .i64 1, .int .i64 1, .int .i64 1] #[.int .i64 0] rfl rfl (by decide) (by decide)
  have hk := chk_any (some ⟨w10.heap.size, 0, none⟩) (some ⟨w10.heap.size + 1, 0, none⟩) 6 1 (up [1, 1, 1, 1, 1, 1]) (up [0]) E2 i1 i2
  rw [show chkE (up [1, 1, 1, 1, 1, 1]) (up [0]) = 192 by decide] at hk
  have HCK := hid hk; have HBF := hid (HBE.out.trans (hb11.mono HBE.out.size)); have HI11 := hid (HI9.out.below hb11)
  clear hk i1 i2 hb11 HI9
  go_wp2_with fail
  refine HCK.out.mono ?_
  rintro en w12 ⟨rfl, hw12⟩
  subst hw12
  clear e1 e2 s1 HCK
  have hct := count_bad (some ⟨w1.heap.size + 1, 0, none⟩) (some ⟨w1.heap.size + 1, 0, none⟩) 5 5 (up [1, 1, 1, 1, 1]) (up [1, 1, 1, 1, 1]) false (-1) w12 HI11.out HI11.out (.inr (by decide))
  rw [show chkE (up [1, 1, 1, 1, 1]) (up [1, 1, 1, 1, 1]) = 0 by decide, if_pos rfl] at hct
  have HCT := hid hct
  clear hct
  go_wp2_with fail
  refine HCT.out.mono ?_
  rintro en w13 ⟨rfl, rfl⟩
  go_wp2_with fail
  go_ret
  exact ⟨rfl, HBF.out⟩
end Go.Proofs.YtdpdpjfnanjmgaaDoor
