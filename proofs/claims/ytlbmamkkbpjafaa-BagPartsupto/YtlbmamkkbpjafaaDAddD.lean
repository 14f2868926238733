/- What the document's Add answers where a thing comes in. -/
import Derived.Test.YtlbmamkkbpjafaaDAddC
namespace Go.Proofs.Ytlbmamkkbpjafaa
open Go.RowKit Go.Deep

set_option maxRecDepth 100000 in
set_option maxHeartbeats 4000000 in
theorem radd_ins (base : Nat) (p : Option Addr) (c : Nat) (l : List It) (x : Th) (n : Int) (w : World) (hO : w.ownsRow base 60 3 (.slice p l.length c) l.length (itAll l)) (hn : l.length ≤ 1048576) (hth : thereB x.1 l = false) (hneg : 0 < n) :
    Calls Try.prog 10 #[.agg #[.slice p l.length c], thV x, .int .i64 n] w fun e w' => RaddEnd w (l.take (posK x.1 l) ++ (x, n) :: l.drop (posK x.1 l)) e w' := by
  obtain ⟨xk, xm⟩ := x
  dsimp only [thV]
  have b1 := alloc_below0 w (.cells #[.slice p l.length c] 27)
  have n1 := World.alloc_heap_new w (.cells #[.slice p l.length c] 27)
  have b2 := alloc_below0 (w.alloc (.cells #[.slice p l.length c] 27)) (.cells #[.int .i64 xk, .int .i64 xm] 31)
  have n2 := World.alloc_heap_new (w.alloc (.cells #[.slice p l.length c] 27)) (.cells #[.int .i64 xk, .int .i64 xm] 31)
  have b3 := alloc_below0 ((w.alloc (.cells #[.slice p l.length c] 27)).alloc (.cells #[.int .i64 xk, .int .i64 xm] 31)) (.cells #[.slice none 0 0] 27)
  have n3 := World.alloc_heap_new ((w.alloc (.cells #[.slice p l.length c] 27)).alloc (.cells #[.int .i64 xk, .int .i64 xm] 31)) (.cells #[.slice none 0 0] 27)
  have N1 := hid ((b3.block _ (by rw [World.size_alloc]; have := (Array.getElem?_eq_some_iff.1 n1).1; omega)).trans ((b2.block _ (Array.getElem?_eq_some_iff.1 n1).1).trans n1))
  have N2 := hid ((b3.block _ (Array.getElem?_eq_some_iff.1 n2).1).trans n2)
  have N3 := hid n3
  simp only [World.size_alloc] at N2 N3
  have HB := hid ((b1.trans (b2.mono b1.size)).trans (b3.mono (Nat.le_trans b1.size b2.size)))
  have HO := hid (owns60_below (owns60_below (owns60_below hO b1) b2) b3)
  have HC := hid (rplace_any p c l (xk, xm) _ (its_of60 HO.out) hn)
  dsimp only [thV] at HC
  clear b1 n1 b2 n2 b3 n3
  rw [show thereB xk l = false from hth] at HC
  have hn0 : ¬ n = 0 := by omega
  clear hth
  have hple := pos_le xk l
  obtain ⟨pos, hpos⟩ : ∃ q, posK xk l = q := ⟨_, rfl⟩
  show Calls _ _ _ _ (fun e w' => RaddEnd w (l.take (posK xk l) ++ ((xk, xm), n) :: l.drop (posK xk l)) e w')
  rw [hpos] at HC hple ⊢
  clear hpos
  go_enter Try.func10, Try.ntmps10
  go_wp2_with fail
  refine HC.out.mono ?_
  rintro e w1 ⟨rfl, hb1⟩
  have e1 := below_cell hb1 _ _ (cell_box (i := 0) N1.out rfl)
  obtain ⟨p', c', w2, hr, hA⟩ := run_app 25 w1.heap.size (.slice none 0 0) 0 [] w1 (World.ownsRow_nil _ _ _ _) p l.length c (itAll l) (src_all (owns60_below HO.out hb1)) (itAll_one l) (by omega) (Nat.le_refl _)
  have b5 : Below w1.heap.size w1 w2 := (fr_grown hA.grown).below (fun k hk => by cases hk) (Nat.le_refl _)
  have hbA := hb1.trans (b5.mono hb1.size)
  have e2 := below_cell hbA _ _ (cell_box (i := 0) N1.out rfl)
  have n3 := (hbA.block _ (Array.getElem?_eq_some_iff.1 N3.out).1).trans N3.out
  have e3 : w2.cell? ⟨w.heap.size + 1 + 1, 0, none⟩ = some (.slice none 0 0) := cell_box n3 rfl
  have f3 : w2.frozen? ⟨w.heap.size + 1 + 1, 0, none⟩ = false := by simp [World.frozen?, n3]
  have hX : w.heap.size + 1 + 1 < w1.heap.size := Nat.lt_of_lt_of_le (Array.getElem?_eq_some_iff.1 N3.out).1 hb1.size
  have hOw := hA.own
  rw [Nat.zero_add, List.nil_append] at hOw
  rw [Nat.zero_add] at hr
  have e7 : w2.cell? ⟨w.heap.size + 1, 0, none⟩ = some (.int .i64 xk) := below_cell hbA _ _ (cell_box N2.out rfl)
  have e8 : w2.cell? ⟨w.heap.size + 1, 1, none⟩ = some (.int .i64 xm) := below_cell hbA _ _ (cell_box N2.out rfl)
  have HBA := hid (HB.out.trans (hbA.mono HB.out.size))
  -- an empty row
  have b6 := alloc_below0 w2 (.cells #[] 60)
  have hE : (w2.alloc (.cells #[] 60)).ownsRow w2.heap.size 60 3 (.slice (some ⟨w2.heap.size, 0, none⟩) 0 0) 0 [] := ⟨rfl, .inr ⟨w2.heap.size, 0, #[], rfl, Nat.le_refl _, World.alloc_heap_new w2 _, Nat.le_refl _, Nat.zero_le _, rfl, rfl⟩⟩
  cases p' with
  | none =>
    have hl0 : l.length = 0 := by
      rcases hOw.2 with ⟨_, h⟩ | ⟨g, _, _, h, _⟩
      · exact h
      · cases (Value.slice.inj h).1
    have hc0 : c' = 0 := by
      rcases hOw.2 with ⟨h, _⟩ | ⟨g, _, _, h, _⟩
      · exact (Value.slice.inj h).2.2
      · cases (Value.slice.inj h).1
    have hl : l = [] := List.eq_nil_of_length_eq_zero hl0
    have hp0 : pos = 0 := by omega
    subst hl hp0 hc0
    obtain ⟨p3, c3, w3, hr3, hA3⟩ := run_app 25 w2.heap.size _ 0 [] _ hE none 0 0 [] (.inl ⟨rfl, rfl, rfl, rfl⟩) (by intro u hu; cases hu) (by omega) b6.size
    have hb3 : Below w2.heap.size w2 w3 := b6.trans ((fr_grown hA3.grown).below (fun k hk => by have h7 : some w2.heap.size = some k := hk; have := Option.some.inj h7; omega) b6.size)
    have b7 := alloc_below0 w3 (.cells #[.int .i64 xk, .int .i64 xm, .int .i64 n] 60)
    have n7 := World.alloc_heap_new w3 (.cells #[.int .i64 xk, .int .i64 xm, .int .i64 n] 60)
    have hO3 := owns60_below hA3.own b7
    have hb7 := hb3.trans (b7.mono hb3.size)
    obtain ⟨p4, c4, w4, hr4, hA4⟩ := run_app 25 w2.heap.size _ _ _ _ hO3 (some ⟨w3.heap.size, 0, none⟩) 1 1 (itCells ((xk, xm), n)) (.inr ⟨_, rfl, rfl, fun j u hj => by
      rw [Addr.add_lit, Nat.zero_add]
      exact cell_box n7 (by rw [← hj]; simp [itCells])⟩) (itCells_one _) (by omega) hb7.size
    have hb4 : Below w2.heap.size w2 w4 := hb7.trans ((fr_grown hA4.grown).below (fun k hk => (hO3.lt k hk).1) hb7.size)
    obtain ⟨p5, c5, w5, hr5, hA5⟩ := run_app 25 w2.heap.size _ _ _ _ hA4.own none 0 0 [] (.inl ⟨rfl, rfl, rfl, rfl⟩) (by intro u hu; cases hu) (by omega) hb4.size
    have hb5 : Below w2.heap.size w2 w5 := hb4.trans ((fr_grown hA5.grown).below (fun k hk => (hA4.own.lt k hk).1) hb4.size)
    have g7 := below_cell hb3 _ _ e7
    have g8 := below_cell hb3 _ _ e8
    have hw2 : w1.heap.size ≤ w2.heap.size := b5.size
    have n9 := (hb5.block _ (by omega)).trans n3
    have e9 : w5.cell? ⟨w.heap.size + 1 + 1, 0, none⟩ = some (.slice none 0 0) := cell_box n9 rfl
    have f9 : w5.frozen? ⟨w.heap.size + 1 + 1, 0, none⟩ = false := by simp [World.frozen?, n9]
    have h10 := hA5.own
    have HR : Hid (w5.ownsRow w2.heap.size 60 3 (.slice p5 1 c5) 1 (itAll [((xk, xm), n)])) := hid (by
      have e : ([] ++ [] ++ itCells ((xk, xm), n) ++ [] : List Value) = itAll [((xk, xm), n)] := rfl
      rw [e] at h10
      exact h10)
    have N9 := hid n9
    have HB5 := hid (HBA.out.trans (hb5.mono HBA.out.size))
    have hblk : ∀ q, p5.map Addr.block = some q → w2.heap.size ≤ q := fun q hq => (hA5.own.lt q (by rw [own_eq]; exact hq)).1
    have HBK := hid hblk
    have hng : ¬ n < 0 := by omega
    simp only [Nat.zero_add, Nat.add_zero, List.length_nil] at hr hr3 hr4 hr5
    clear hb1 hA b5 hbA n3 hO hOw hA3 hA4 hA5 hb3 hb4 hb5 hb7 b6 b7 n7 n9 hE hO3 h10 hblk
    go_upto_region 4 with (at_builtin; refine Lib.wpList_append_run _ rfl _ _ _ _ rfl _ _ rfl rfl _ _ hr ?_)
    clear hr
    go_upto_region 5 with (at_builtin; refine Lib.wpList_append_run _ rfl _ _ _ _ rfl _ _ rfl rfl _ _ hr3 ?_)
    clear hr3
    go_upto_region 6 with (at_builtin; refine Lib.wpList_append_run _ rfl _ _ _ _ rfl _ _ rfl rfl _ _ hr4 ?_)
    clear hr4
    go_upto_region 16 with (at_builtin; refine Lib.wpList_append_run _ rfl _ _ _ _ rfl _ _ rfl rfl _ _ hr5 ?_)
    clear hr5
    go_wp2_with fail
    refine ret10 (B := w.heap.size + 1 + 1) rfl (block_set N9.out _) rfl ⟨p5, c5, rfl, ?_, ?_⟩
    · exact owns60_mono (owns60_fr HR.out (fr_set _ (w.heap.size + 1 + 1) 0 _) (fun q hq e => by have := HBK.out q (by rw [← own_eq]; exact hq); omega)) (by omega)
    · exact HB5.out.setCell (p := ⟨w.heap.size + 1 + 1, 0, none⟩) (show w.heap.size ≤ w.heap.size + 1 + 1 by omega) _
  | some ad =>
    obtain ⟨g, hg⟩ : ∃ g, ad = ⟨g, 0, none⟩ := by
      rcases hOw.2 with ⟨h, _⟩ | ⟨g, _, _, h, _⟩
      · cases h
      · exact ⟨g, Option.some.inj (Value.slice.inj h).1⟩
    subst hg
    have hcl : l.length ≤ c' := by
      rcases hOw.2 with ⟨h, _⟩ | ⟨g, _, _, h, _, _, h', _⟩
      · cases h
      · rw [(Value.slice.inj h).2.2]; exact h'
    have hcell : ∀ (o : Nat) (W : World), Below w2.heap.size w2 W → ∀ j u, ((itAll l).drop o)[j]? = some u → W.cell? ((⟨g, o, none⟩ : Addr).add j) = some u := fun o W hW j u hj => by
      rw [List.getElem?_drop] at hj
      have h := hOw.cells (g := g) rfl (o + j) u hj
      rw [Addr.add_lit, Nat.zero_add] at h
      rw [Addr.add_lit]
      exact below_cell hW _ _ h
    obtain ⟨p3, c3, w3, hr3, hA3⟩ := run_app 25 w2.heap.size _ 0 [] _ hE (some ⟨g, 0, none⟩) pos c' (itAll (l.take pos)) (.inr ⟨_, rfl, by rw [itAll_len, List.length_take, Nat.min_eq_left hple], fun j u hj => hcell 0 _ b6 j u (by
      rw [List.drop_zero]
      rw [← itAll_take, List.getElem?_take] at hj
      split at hj
      · exact hj
      · cases hj)⟩) (itAll_one _) (by omega) b6.size
    have hb3 : Below w2.heap.size w2 w3 := b6.trans ((fr_grown hA3.grown).below (fun k hk => by have h7 : some w2.heap.size = some k := hk; have := Option.some.inj h7; omega) b6.size)
    have b7 := alloc_below0 w3 (.cells #[.int .i64 xk, .int .i64 xm, .int .i64 n] 60)
    have n7 := World.alloc_heap_new w3 (.cells #[.int .i64 xk, .int .i64 xm, .int .i64 n] 60)
    have hO3 := owns60_below hA3.own b7
    have hb7 := hb3.trans (b7.mono hb3.size)
    obtain ⟨p4, c4, w4, hr4, hA4⟩ := run_app 25 w2.heap.size _ _ _ _ hO3 (some ⟨w3.heap.size, 0, none⟩) 1 1 (itCells ((xk, xm), n)) (.inr ⟨_, rfl, rfl, fun j u hj => by
      rw [Addr.add_lit, Nat.zero_add]
      exact cell_box n7 (by rw [← hj]; simp [itCells])⟩) (itCells_one _) (by omega) hb7.size
    have hb4 : Below w2.heap.size w2 w4 := hb7.trans ((fr_grown hA4.grown).below (fun k hk => (hO3.lt k hk).1) hb7.size)
    obtain ⟨A, hA0, hsrc⟩ : ∃ A : Addr, (if c' = pos then some (⟨g, 0, none⟩ : Addr) else some ⟨g, pos * 3, none⟩) = some A ∧ Hid (∀ j u, (itAll (l.drop pos))[j]? = some u → w4.cell? (A.add j) = some u) := by
      by_cases h : c' = pos
      · refine ⟨⟨g, 0, none⟩, by simp [h], fun j u hu => ?_⟩
        rw [List.drop_eq_nil_of_le (by omega)] at hu
        cases hu
      · exact ⟨⟨g, pos * 3, none⟩, by simp [h], fun j u hj => hcell (pos * 3) _ hb4 j u (by rw [itAll_drop]; exact hj)⟩
    obtain ⟨p5, c5, w5, hr5, hA5⟩ := run_app 25 w2.heap.size _ _ _ _ hA4.own (some A) (l.length - pos) (c' - pos) (itAll (l.drop pos)) (.inr ⟨_, rfl, by rw [itAll_len, List.length_drop], hsrc.out⟩) (itAll_one _) (by omega) hb4.size
    have hb5 : Below w2.heap.size w2 w5 := hb4.trans ((fr_grown hA5.grown).below (fun k hk => (hA4.own.lt k hk).1) hb4.size)
    have g7 := below_cell hb3 _ _ e7
    have g8 := below_cell hb3 _ _ e8
    have hw2 : w1.heap.size ≤ w2.heap.size := b5.size
    have n9 := (hb5.block _ (by omega)).trans n3
    have e9 : w5.cell? ⟨w.heap.size + 1 + 1, 0, none⟩ = some (.slice none 0 0) := cell_box n9 rfl
    have f9 : w5.frozen? ⟨w.heap.size + 1 + 1, 0, none⟩ = false := by simp [World.frozen?, n9]
    have hL : (l.take pos ++ ((xk, xm), n) :: l.drop pos).length = 0 + pos + 1 + (l.length - pos) := by simp; omega
    have h10 := hA5.own
    rw [List.nil_append, ← hL, show itAll (l.take pos) ++ itCells ((xk, xm), n) ++ itAll (l.drop pos) = itAll (l.take pos ++ ((xk, xm), n) :: l.drop pos) by rw [itAll_append]; show _ = _ ++ (itCells ((xk, xm), n) ++ itAll (l.drop pos)); rw [List.append_assoc]] at h10
    have HR := hid h10; have HL := hid hL; have N9 := hid n9
    have HB5 := hid (HBA.out.trans (hb5.mono HBA.out.size))
    have hblk : ∀ q, p5.map Addr.block = some q → w2.heap.size ≤ q := fun q hq => (hA5.own.lt q (by rw [own_eq]; exact hq)).1
    have HBK := hid hblk
    have hz1 : (pos : Int) ≤ (c' : Int) := by omega
    have hz2 : (pos : Int) ≤ (l.length : Int) := by omega
    have hz3 : (0 : Int) ≤ (pos : Int) := by omega
    have hng : ¬ n < 0 := by omega
    simp only [Nat.zero_add] at hr3 hr4 hr5
    clear hb1 hA b5 hbA n3 hO hOw hcell hA3 hA4 hA5 hb3 hb4 hb5 hb7 b6 b7 n7 n9 hE hO3 h10 hL hblk
    go_upto_region 4 with (at_builtin; refine Lib.wpList_append_run _ rfl _ _ _ _ rfl _ _ rfl rfl _ _ hr ?_)
    clear hr
    go_upto_region 5 with (at_builtin; refine Lib.wpList_append_run _ rfl _ _ _ _ rfl _ _ rfl rfl _ _ hr3 ?_)
    clear hr3
    go_upto_region 6 with (at_builtin; refine Lib.wpList_append_run _ rfl _ _ _ _ rfl _ _ rfl rfl _ _ hr4 ?_)
    clear hr4
    go_upto_region 16 with (at_builtin; refine Lib.wpList_append_run _ rfl _ _ _ _ rfl _ _ rfl rfl _ _ hr5 ?_)
    clear hr5
    go_wp2_with fail
    refine ret10 (B := w.heap.size + 1 + 1) rfl (block_set N9.out _) rfl ⟨p5, c5, by rw [HL.out, Nat.zero_add]; rfl, ?_, ?_⟩
    · exact owns60_mono (owns60_fr HR.out (fr_set _ (w.heap.size + 1 + 1) 0 _) (fun q hq e => by have := HBK.out q (by rw [← own_eq]; exact hq); omega)) (by omega)
    · exact HB5.out.setCell (p := ⟨w.heap.size + 1 + 1, 0, none⟩) (show w.heap.size ≤ w.heap.size + 1 + 1 by omega) _
end Go.Proofs.Ytlbmamkkbpjafaa
