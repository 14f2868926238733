/- What the document's Add answers where there is something to do. -/
import Derived.Test.YtlbmamkkbpjafaaDAdd
namespace Go.Proofs.Ytlbmamkkbpjafaa
open Go.RowKit Go.Deep

set_option maxRecDepth 100000 in
set_option maxHeartbeats 4000000 in
theorem radd_awayNo (base : Nat) (p : Option Addr) (c : Nat) (l : List It) (x : Th) (n : Int) (w : World) (hO : w.ownsRow base 60 3 (.slice p l.length c) l.length (itAll l)) (hn : l.length ≤ 1048576) (hth : thereB x.1 l = false) (hneg : n < 0) :
    Calls Try.prog 10 #[.agg #[.slice p l.length c], thV x, .int .i64 n] w fun e w' => e = .returned (.tuple #[.agg #[.slice p l.length c], .bool false]) ∧ Below w.heap.size w w' := by
  obtain ⟨xk, xm⟩ := x
  dsimp only [thV]
  have b1 := alloc_below0 w (.cells #[.slice p l.length c] 27)
  have n1 := World.alloc_heap_new w (.cells #[.slice p l.length c] 27)
  have b2 := alloc_below0 (w.alloc (.cells #[.slice p l.length c] 27)) (.cells #[.int .i64 xk, .int .i64 xm] 31)
  have n2 := World.alloc_heap_new (w.alloc (.cells #[.slice p l.length c] 27)) (.cells #[.int .i64 xk, .int .i64 xm] 31)
  have b3 := alloc_below0 ((w.alloc (.cells #[.slice p l.length c] 27)).alloc (.cells #[.int .i64 xk, .int .i64 xm] 31)) (.cells #[.slice none 0 0] 27)
  have n3 := World.alloc_heap_new ((w.alloc (.cells #[.slice p l.length c] 27)).alloc (.cells #[.int .i64 xk, .int .i64 xm] 31)) (.cells #[.slice none 0 0] 27)
  have N1 := hid ((b3.block _ (by rw [World.size_alloc]; have := (Array.getElem?_eq_some_iff.1 n1).1; omega)).trans ((b2.block _ (Array.getElem?_eq_some_iff.1 n1).1).trans n1))
  have N2 := hid ((b3.block _ (Array.getElem?_eq_some_iff.1 n2).1).trans n2)
  have N3 := hid n3
  simp only [World.size_alloc] at N2 N3
  have HB := hid ((b1.trans (b2.mono b1.size)).trans (b3.mono (Nat.le_trans b1.size b2.size)))
  have HO := hid (owns60_below (owns60_below (owns60_below hO b1) b2) b3)
  have HC := hid (rplace_any p c l (xk, xm) _ (its_of60 HO.out) hn)
  dsimp only [thV] at HC
  clear b1 n1 b2 n2 b3 n3
  rw [show thereB xk l = false from hth] at HC
  have hn0 : ¬ n = 0 := by omega
  clear hth
  go_enter Try.func10, Try.ntmps10
  go_wp2_with fail
  refine HC.out.mono ?_
  rintro e w1 ⟨rfl, hb1⟩
  have e1 := below_cell hb1 _ _ (cell_box (i := 0) N1.out rfl)
  obtain ⟨p', c', w2, hr, hA⟩ := run_app 25 w1.heap.size (.slice none 0 0) 0 [] w1 (World.ownsRow_nil _ _ _ _) p l.length c (itAll l) (src_all (owns60_below HO.out hb1)) (itAll_one l) (by omega) (Nat.le_refl _)
  have b5 : Below w1.heap.size w1 w2 := (fr_grown hA.grown).below (fun k hk => by cases hk) (Nat.le_refl _)
  have hbA := hb1.trans (b5.mono hb1.size)
  have e2 := below_cell hbA _ _ (cell_box (i := 0) N1.out rfl)
  have n3 := (hbA.block _ (Array.getElem?_eq_some_iff.1 N3.out).1).trans N3.out
  have e3 : w2.cell? ⟨w.heap.size + 1 + 1, 0, none⟩ = some (.slice none 0 0) := cell_box n3 rfl
  have f3 : w2.frozen? ⟨w.heap.size + 1 + 1, 0, none⟩ = false := by simp [World.frozen?, n3]
  have HBA := hid (HB.out.trans (hbA.mono HB.out.size))
  have N4 := hid n3
  clear hb1 hA b5 hbA n3 hO
  go_wp2_with (at_builtin; refine Lib.wpList_append_run _ rfl _ _ _ _ rfl _ _ rfl rfl _ _ hr ?_)
  have hge : w.heap.size ≤ w.heap.size + 1 + 1 := by omega
  exact ret10 (B := w.heap.size + 1 + 1) rfl (block_set N4.out _) rfl ⟨rfl, HBA.out.setCell (p := ⟨w.heap.size + 1 + 1, 0, none⟩) hge _⟩
set_option maxRecDepth 100000 in
set_option maxHeartbeats 4000000 in
theorem radd_thereNo (base : Nat) (p : Option Addr) (c : Nat) (l : List It) (x : Th) (n : Int) (w : World) (hO : w.ownsRow base 60 3 (.slice p l.length c) l.length (itAll l)) (hn : l.length ≤ 1048576) (hth : thereB x.1 l = true) (hlt0 : n < 0) (hneg : cntK x.1 l + n < 0) (hcb : -1000000000000 ≤ cntK x.1 l ∧ cntK x.1 l ≤ 1000000000000) (hnb : -1000000000000 ≤ n ∧ n ≤ 1000000000000) :
    Calls Try.prog 10 #[.agg #[.slice p l.length c], thV x, .int .i64 n] w fun e w' => e = .returned (.tuple #[.agg #[.slice p l.length c], .bool false]) ∧ Below w.heap.size w w' := by
  obtain ⟨xk, xm⟩ := x
  dsimp only [thV]
  have b1 := alloc_below0 w (.cells #[.slice p l.length c] 27)
  have n1 := World.alloc_heap_new w (.cells #[.slice p l.length c] 27)
  have b2 := alloc_below0 (w.alloc (.cells #[.slice p l.length c] 27)) (.cells #[.int .i64 xk, .int .i64 xm] 31)
  have n2 := World.alloc_heap_new (w.alloc (.cells #[.slice p l.length c] 27)) (.cells #[.int .i64 xk, .int .i64 xm] 31)
  have b3 := alloc_below0 ((w.alloc (.cells #[.slice p l.length c] 27)).alloc (.cells #[.int .i64 xk, .int .i64 xm] 31)) (.cells #[.slice none 0 0] 27)
  have n3 := World.alloc_heap_new ((w.alloc (.cells #[.slice p l.length c] 27)).alloc (.cells #[.int .i64 xk, .int .i64 xm] 31)) (.cells #[.slice none 0 0] 27)
  have N1 := hid ((b3.block _ (by rw [World.size_alloc]; have := (Array.getElem?_eq_some_iff.1 n1).1; omega)).trans ((b2.block _ (Array.getElem?_eq_some_iff.1 n1).1).trans n1))
  have N2 := hid ((b3.block _ (Array.getElem?_eq_some_iff.1 n2).1).trans n2)
  have N3 := hid n3
  simp only [World.size_alloc] at N2 N3
  have HB := hid ((b1.trans (b2.mono b1.size)).trans (b3.mono (Nat.le_trans b1.size b2.size)))
  have HO := hid (owns60_below (owns60_below (owns60_below hO b1) b2) b3)
  have HC := hid (rplace_any p c l (xk, xm) _ (its_of60 HO.out) hn)
  dsimp only [thV] at HC
  clear b1 n1 b2 n2 b3 n3
  have hth' : thereB xk l = true := hth
  rw [hth'] at HC
  obtain ⟨hp, _⟩ := there_lt hth'
  have hc0 := cnt_there hth' hp
  obtain ⟨cn, hcn⟩ : ∃ q, cntK xk l = q := ⟨_, rfl⟩
  dsimp only at hneg hcb
  rw [hcn] at hc0 hneg hcb
  obtain ⟨pos, hpos⟩ : ∃ q, posK xk l = q := ⟨_, rfl⟩
  simp only [hpos] at HC hp hc0
  have hn0 : ¬ n = 0 := by omega
  have hpi : ((pos : Nat) : Int) < (l.length : Int) := by omega
  have hpi0 : (0 : Int) ≤ ((pos : Nat) : Int) := by omega
  have hc1 : cn = (l[pos]'hp).2 := hc0
  clear hc0 hth hth' hpos hcn
  have hw : IntKind.i64.wrap (cn + n) = cn + n := by rw [IntKind.wrap_i64]; omega
  go_enter Try.func10, Try.ntmps10
  go_wp2_with fail
  refine HC.out.mono ?_
  rintro e w1 ⟨rfl, hb1⟩
  have e1 := below_cell hb1 _ _ (cell_box (i := 0) N1.out rfl)
  obtain ⟨p', c', w2, hr, hA⟩ := run_app 25 w1.heap.size (.slice none 0 0) 0 [] w1 (World.ownsRow_nil _ _ _ _) p l.length c (itAll l) (src_all (owns60_below HO.out hb1)) (itAll_one l) (by omega) (Nat.le_refl _)
  obtain ⟨g, hg⟩ : ∃ g, p' = some ⟨g, 0, none⟩ := by
    rcases hA.own.2 with ⟨_, h⟩ | ⟨g, _, _, h, _⟩
    · omega
    · exact ⟨g, (Value.slice.inj h).1⟩
  subst hg
  have hOw := hA.own
  rw [Nat.zero_add, List.nil_append] at hOw
  have e4 : w2.cell? ⟨g, pos * 3 + 2, none⟩ = some (.int .i64 cn) := by
    have := hOw.cells (g := g) rfl (pos * 3 + 2) (.int .i64 cn) (by rw [hc1]; exact itAll_at l pos hp 2 (by decide))
    rwa [Addr.add_lit, Nat.zero_add] at this
  rw [Nat.zero_add] at hr
  have b5 : Below w1.heap.size w1 w2 := (fr_grown hA.grown).below (fun k hk => by cases hk) (Nat.le_refl _)
  have hbA := hb1.trans (b5.mono hb1.size)
  have e2 := below_cell hbA _ _ (cell_box (i := 0) N1.out rfl)
  have n3 := (hbA.block _ (Array.getElem?_eq_some_iff.1 N3.out).1).trans N3.out
  have e3 : w2.cell? ⟨w.heap.size + 1 + 1, 0, none⟩ = some (.slice none 0 0) := cell_box n3 rfl
  have f3 : w2.frozen? ⟨w.heap.size + 1 + 1, 0, none⟩ = false := by simp [World.frozen?, n3]
  have HBA := hid (HB.out.trans (hbA.mono HB.out.size))
  have N4 := hid n3
  clear hb1 hA b5 hbA n3 hO hOw
  go_wp2_with (at_builtin; refine Lib.wpList_append_run _ rfl _ _ _ _ rfl _ _ rfl rfl _ _ hr ?_)
  have hge : w.heap.size ≤ w.heap.size + 1 + 1 := by omega
  exact ret10 (B := w.heap.size + 1 + 1) rfl (block_set N4.out _) rfl ⟨rfl, HBA.out.setCell (p := ⟨w.heap.size + 1 + 1, 0, none⟩) hge _⟩
end Go.Proofs.Ytlbmamkkbpjafaa
