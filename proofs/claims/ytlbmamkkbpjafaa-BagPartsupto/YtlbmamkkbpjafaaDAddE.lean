/- What the document's Add answers where a thing goes out. -/
import Derived.Test.YtlbmamkkbpjafaaDAddD
namespace Go.Proofs.Ytlbmamkkbpjafaa
open Go.RowKit Go.Deep

set_option maxRecDepth 100000 in
set_option maxHeartbeats 4000000 in
theorem radd_del (base : Nat) (p : Option Addr) (c : Nat) (l : List It) (x : Th) (n : Int) (w : World) (hO : w.ownsRow base 60 3 (.slice p l.length c) l.length (itAll l)) (hn : l.length ≤ 1048576) (hth : thereB x.1 l = true) (hne : n ≠ 0) (hneg : cntK x.1 l + n = 0) (hcb : -1000000000000 ≤ cntK x.1 l ∧ cntK x.1 l ≤ 1000000000000) :
    Calls Try.prog 10 #[.agg #[.slice p l.length c], thV x, .int .i64 n] w fun e w' => RaddEnd w (l.eraseIdx (posK x.1 l)) e w' := by
  obtain ⟨xk, xm⟩ := x
  dsimp only [thV]
  have b1 := alloc_below0 w (.cells #[.slice p l.length c] 27)
  have n1 := World.alloc_heap_new w (.cells #[.slice p l.length c] 27)
  have b2 := alloc_below0 (w.alloc (.cells #[.slice p l.length c] 27)) (.cells #[.int .i64 xk, .int .i64 xm] 31)
  have n2 := World.alloc_heap_new (w.alloc (.cells #[.slice p l.length c] 27)) (.cells #[.int .i64 xk, .int .i64 xm] 31)
  have b3 := alloc_below0 ((w.alloc (.cells #[.slice p l.length c] 27)).alloc (.cells #[.int .i64 xk, .int .i64 xm] 31)) (.cells #[.slice none 0 0] 27)
  have n3 := World.alloc_heap_new ((w.alloc (.cells #[.slice p l.length c] 27)).alloc (.cells #[.int .i64 xk, .int .i64 xm] 31)) (.cells #[.slice none 0 0] 27)
  have N1 := hid ((b3.block _ (by rw [World.size_alloc]; have := (Array.getElem?_eq_some_iff.1 n1).1; omega)).trans ((b2.block _ (Array.getElem?_eq_some_iff.1 n1).1).trans n1))
  have N2 := hid ((b3.block _ (Array.getElem?_eq_some_iff.1 n2).1).trans n2)
  have N3 := hid n3
  simp only [World.size_alloc] at N2 N3
  have HB := hid ((b1.trans (b2.mono b1.size)).trans (b3.mono (Nat.le_trans b1.size b2.size)))
  have HO := hid (owns60_below (owns60_below (owns60_below hO b1) b2) b3)
  have HC := hid (rplace_any p c l (xk, xm) _ (its_of60 HO.out) hn)
  dsimp only [thV] at HC
  clear b1 n1 b2 n2 b3 n3
  have hth' : thereB xk l = true := hth
  rw [hth'] at HC
  obtain ⟨hp, _⟩ := there_lt hth'
  have hc0 := cnt_there hth' hp
  obtain ⟨cn, hcn⟩ : ∃ q, cntK xk l = q := ⟨_, rfl⟩
  dsimp only at hneg hcb
  rw [hcn] at hc0 hneg hcb
  obtain ⟨pos, hpos⟩ : ∃ q, posK xk l = q := ⟨_, rfl⟩
  show Calls _ _ _ _ (fun e w' => RaddEnd w (l.eraseIdx (posK xk l)) e w')
  rw [hpos]
  simp only [hpos] at HC hp hc0
  have hn0 : ¬ n = 0 := hne
  have hpi : ((pos : Nat) : Int) < (l.length : Int) := by omega
  have hpi0 : (0 : Int) ≤ ((pos : Nat) : Int) := by omega
  have hc1 : cn = (l[pos]'hp).2 := hc0
  clear hc0 hth hth' hpos hcn
  have hw : IntKind.i64.wrap (cn + n) = cn + n := by rw [IntKind.wrap_i64]; omega
  go_enter Try.func10, Try.ntmps10
  go_wp2_with fail
  refine HC.out.mono ?_
  rintro e w1 ⟨rfl, hb1⟩
  have e1 := below_cell hb1 _ _ (cell_box (i := 0) N1.out rfl)
  obtain ⟨p', c', w2, hr, hA⟩ := run_app 25 w1.heap.size (.slice none 0 0) 0 [] w1 (World.ownsRow_nil _ _ _ _) p l.length c (itAll l) (src_all (owns60_below HO.out hb1)) (itAll_one l) (by omega) (Nat.le_refl _)
  obtain ⟨g, hg⟩ : ∃ g, p' = some ⟨g, 0, none⟩ := by
    rcases hA.own.2 with ⟨_, h⟩ | ⟨g, _, _, h, _⟩
    · omega
    · exact ⟨g, (Value.slice.inj h).1⟩
  subst hg
  have hOw := hA.own
  rw [Nat.zero_add, List.nil_append] at hOw
  have e4 : w2.cell? ⟨g, pos * 3 + 2, none⟩ = some (.int .i64 cn) := by
    have := hOw.cells (g := g) rfl (pos * 3 + 2) (.int .i64 cn) (by rw [hc1]; exact itAll_at l pos hp 2 (by decide))
    rwa [Addr.add_lit, Nat.zero_add] at this
  rw [Nat.zero_add] at hr
  have b5 : Below w1.heap.size w1 w2 := (fr_grown hA.grown).below (fun k hk => by cases hk) (Nat.le_refl _)
  have hbA := hb1.trans (b5.mono hb1.size)
  have e2 := below_cell hbA _ _ (cell_box (i := 0) N1.out rfl)
  have n3 := (hbA.block _ (Array.getElem?_eq_some_iff.1 N3.out).1).trans N3.out
  have e3 : w2.cell? ⟨w.heap.size + 1 + 1, 0, none⟩ = some (.slice none 0 0) := cell_box n3 rfl
  have f3 : w2.frozen? ⟨w.heap.size + 1 + 1, 0, none⟩ = false := by simp [World.frozen?, n3]
  have hX : w.heap.size + 1 + 1 < w1.heap.size := Nat.lt_of_lt_of_le (Array.getElem?_eq_some_iff.1 N3.out).1 hb1.size
  have hgX : w1.heap.size ≤ g := by
    rcases hOw.2 with ⟨h, _⟩ | ⟨g', _, _, h, h', _⟩
    · cases h
    · cases (Value.slice.inj h).1
      exact h'
  have hS := World.ownsRow.stored hOw (pos * 3 + 2) (.int .i64 (cn + n))
  rw [itAll_set (cn + n) l pos hp] at hS
  have e5 : (w2.setCell ⟨g, pos * 3 + 2, none⟩ (.int .i64 (cn + n))).cell? ⟨g, pos * 3 + 2, none⟩ = some (.int .i64 (cn + n)) := by
    have := hS.1.cells (g := g) rfl (pos * 3 + 2) (.int .i64 (cn + n)) (by rw [← itAll_set (cn + n) l pos hp, List.getElem?_set_self (by rw [itAll_len]; omega)])
    rwa [Addr.add_lit, Nat.zero_add] at this
  have f4 : w2.frozen? ⟨g, pos * 3 + 2, none⟩ = false := hOw.frozenAt _
  have n5 : (w2.setCell ⟨g, pos * 3 + 2, none⟩ (.int .i64 (cn + n))).heap[w.heap.size + 1 + 1]? = some (.cells #[.slice none 0 0] 27 (0, 0)) := (set_far (by omega) _).trans n3
  have e6 : (w2.setCell ⟨g, pos * 3 + 2, none⟩ (.int .i64 (cn + n))).cell? ⟨w.heap.size + 1 + 1, 0, none⟩ = some (.slice none 0 0) := cell_box n5 rfl
  have f6 : (w2.setCell ⟨g, pos * 3 + 2, none⟩ (.int .i64 (cn + n))).frozen? ⟨w.heap.size + 1 + 1, 0, none⟩ = false := by simp [World.frozen?, n5]
  have HBA := hid (HB.out.trans (hbA.mono HB.out.size))
  have hw2 : w1.heap.size ≤ w2.heap.size := b5.size
  rw [hneg] at hw hS e5 f6 e6 n5
  have hwn : cn + n = 0 := hneg
  obtain ⟨W2, hW2⟩ : ∃ W2, w2.setCell ⟨g, pos * 3 + 2, none⟩ (.int .i64 0) = W2 := ⟨_, rfl⟩
  have hz : W2.heap.size = w2.heap.size := by rw [← hW2]; simp
  have hBS : Below w.heap.size w W2 := by rw [← hW2]; exact HBA.out.setCell (p := ⟨g, pos * 3 + 2, none⟩) (show w.heap.size ≤ g by omega) _
  rw [hW2] at hS e5 f6 e6 n5
  have hS1 := hS.1
  have hcl : l.length ≤ c' := by
    rcases hOw.2 with ⟨h, _⟩ | ⟨g, _, _, h, _, _, h', _⟩
    · cases h
    · rw [(Value.slice.inj h).2.2]; exact h'
  have hcell : ∀ (W : World), Below W2.heap.size W2 W → ∀ o j u, ((itAll (l.set pos (l[pos].1, 0))).drop o)[j]? = some u → W.cell? ((⟨g, o, none⟩ : Addr).add j) = some u := fun W hW o j u hj => by
    rw [List.getElem?_drop] at hj
    have h := hS1.cells (g := g) rfl (o + j) u hj
    rw [Addr.add_lit, Nat.zero_add] at h
    rw [Addr.add_lit]
    exact below_cell hW _ _ h
  have b6 := alloc_below0 W2 (.cells #[] 60)
  have hE : (W2.alloc (.cells #[] 60)).ownsRow W2.heap.size 60 3 (.slice (some ⟨W2.heap.size, 0, none⟩) 0 0) 0 [] := ⟨rfl, .inr ⟨W2.heap.size, 0, #[], rfl, Nat.le_refl _, World.alloc_heap_new W2 _, Nat.le_refl _, Nat.zero_le _, rfl, rfl⟩⟩
  have ht1 : (l.set pos (l[pos].1, 0)).take pos = l.take pos := List.take_set_of_le (Nat.le_refl _)
  have ht2 : (l.set pos (l[pos].1, 0)).drop (pos + 1) = l.drop (pos + 1) := List.drop_set_of_lt (Nat.lt_succ_self _)
  obtain ⟨p3, c3, w3, hr3, hA3⟩ := run_app 25 W2.heap.size _ 0 [] _ hE (some ⟨g, 0, none⟩) pos c' (itAll (l.take pos)) (.inr ⟨_, rfl, by rw [itAll_len, List.length_take, Nat.min_eq_left (by omega)], fun j u hj => hcell _ b6 0 j u (by
    rw [List.drop_zero]
    rw [← ht1, ← itAll_take, List.getElem?_take] at hj
    split at hj
    · exact hj
    · cases hj)⟩) (itAll_one _) (by omega) b6.size
  have hb3 : Below W2.heap.size W2 w3 := b6.trans ((fr_grown hA3.grown).below (fun k hk => by have h7 : some W2.heap.size = some k := hk; have := Option.some.inj h7; omega) b6.size)
  obtain ⟨A, hA0, hsrc⟩ : ∃ A : Addr, (if c' = pos + 1 then some (⟨g, 0, none⟩ : Addr) else some ⟨g, (pos + 1) * 3, none⟩) = some A ∧ Hid (∀ j u, (itAll (l.drop (pos + 1)))[j]? = some u → w3.cell? (A.add j) = some u) := by
    by_cases h : c' = pos + 1
    · refine ⟨⟨g, 0, none⟩, by simp [h], fun j u hu => ?_⟩
      rw [List.drop_eq_nil_of_le (by omega)] at hu
      cases hu
    · exact ⟨⟨g, (pos + 1) * 3, none⟩, by simp [h], fun j u hj => hcell _ hb3 ((pos + 1) * 3) j u (by rw [itAll_drop, ht2]; exact hj)⟩
  obtain ⟨p5, c5, w5, hr5, hA5⟩ := run_app 25 W2.heap.size _ _ _ _ hA3.own (some A) (l.length - (pos + 1)) (c' - (pos + 1)) (itAll (l.drop (pos + 1))) (.inr ⟨_, rfl, by rw [itAll_len, List.length_drop], hsrc.out⟩) (itAll_one _) (by omega) hb3.size
  have hb5 : Below W2.heap.size W2 w5 := hb3.trans ((fr_grown hA5.grown).below (fun k hk => (hA3.own.lt k hk).1) hb3.size)
  have n9 := (hb5.block _ (by omega)).trans n5
  have e9 : w5.cell? ⟨w.heap.size + 1 + 1, 0, none⟩ = some (.slice none 0 0) := cell_box n9 rfl
  have f9 : w5.frozen? ⟨w.heap.size + 1 + 1, 0, none⟩ = false := by simp [World.frozen?, n9]
  have hL : (l.eraseIdx pos).length = 0 + pos + (l.length - (pos + 1)) := by rw [List.length_eraseIdx_of_lt hp]; omega
  have h10 := hA5.own
  rw [List.nil_append, ← hL, show itAll (l.take pos) ++ itAll (l.drop (pos + 1)) = itAll (l.eraseIdx pos) by rw [← itAll_append, List.eraseIdx_eq_take_drop_succ]] at h10
  have HR := hid h10; have HL := hid hL; have N9 := hid n9
  have HB5 := hid (hBS.trans (hb5.mono hBS.size))
  have hblk : ∀ q, p5.map Addr.block = some q → W2.heap.size ≤ q := fun q hq => (hA5.own.lt q (by rw [own_eq]; exact hq)).1
  have HBK := hid hblk; have HZ : Hid (w1.heap.size ≤ W2.heap.size) := hid (by omega)
  have hz1 : (pos : Int) ≤ (c' : Int) := by omega
  have hz2 : (pos : Int) ≤ (l.length : Int) := by omega
  have hz4 : (pos : Int) + 1 ≤ (c' : Int) := by omega
  have hz5 : (pos : Int) + 1 ≤ (l.length : Int) := by omega
  have hz6 : (0 : Int) ≤ (pos : Int) + 1 := by omega
  have hs : n < 0 ∨ 0 < n := by omega
  simp only [Nat.zero_add] at hr3 hr5
  clear hb1 hA b5 hbA n3 n5 hO hOw hS hS1 hcell hA3 hA5 hb3 hb5 b6 n9 hE h10 hL hblk hc1 hBS ht1 ht2 hz hw2
  rcases hs with hs | hs
  all_goals
    go_upto_region 12 with (at_builtin; refine Lib.wpList_append_run _ rfl _ _ _ _ rfl _ _ rfl rfl _ _ hr ?_)
    clear hr
    go_upto_region 13 with fail
    go_upto_region 14 with fail
    go_upto_region 15 with (at_builtin; refine Lib.wpList_append_run _ rfl _ _ _ _ rfl _ _ rfl rfl _ _ hr3 ?_)
    clear hr3
    go_upto_region 16 with (at_builtin; refine Lib.wpList_append_run _ rfl _ _ _ _ rfl _ _ rfl rfl _ _ hr5 ?_)
    clear hr5
    go_wp2_with fail
    refine ret10 (B := w.heap.size + 1 + 1) rfl (block_set N9.out _) rfl ⟨p5, c5, by rw [HL.out, Nat.zero_add]; rfl, ?_, ?_⟩
    · exact owns60_mono (owns60_fr HR.out (fr_set _ (w.heap.size + 1 + 1) 0 _) (fun q hq e => by have := HBK.out q (by rw [← own_eq]; exact hq); have := HZ.out; omega)) (by have := HZ.out; omega)
    · exact HB5.out.setCell (p := ⟨w.heap.size + 1 + 1, 0, none⟩) (show w.heap.size ≤ w.heap.size + 1 + 1 by omega) _
/-- What the document's Add leaves. -/
def RAddAll (base : Nat) (x : Th) (n : Int) (l : List It) (w : World) (e : Ending) (w' : World) : Prop := ∃ p' c', e = .returned (.tuple #[.agg #[.slice p' (addP x n l).2.length c'], .bool (addP x n l).1]) ∧ w'.ownsRow base 60 3 (.slice p' (addP x n l).2.length c') (addP x n l).2.length (itAll (addP x n l).2) ∧ Below w.heap.size w w'
theorem radd_any (base : Nat) (p : Option Addr) (c : Nat) (l : List It) (x : Th) (n : Int) (w : World) (hO : w.ownsRow base 60 3 (.slice p l.length c) l.length (itAll l)) (hbase : base ≤ w.heap.size) (hn : l.length ≤ 1048576) (hy : ∀ y ∈ l, 1 ≤ y.2 ∧ y.2 ≤ 1000000000) (hnb : -1000000000000 ≤ n ∧ n ≤ 1000000000000) :
    Calls Try.prog 10 #[.agg #[.slice p l.length c], thV x, .int .i64 n] w (RAddAll base x n l w) := by
  by_cases hn0 : n = 0
  · subst hn0
    refine Calls.mono (radd_zero base p c l x w hO hn) ?_
    rintro e w' ⟨rfl, hb⟩
    have ha : addP x 0 l = (true, l) := by unfold addP; rw [if_pos rfl]
    exact ⟨p, c, by rw [ha], by rw [ha]; exact owns60_below hO hb, hb⟩
  cases hth : thereB x.1 l with
  | false =>
    have hc0 : cntK x.1 l = 0 := by unfold cntK; rw [hth]; rfl
    by_cases hneg : n < 0
    · refine Calls.mono (radd_awayNo base p c l x n w hO hn hth hneg) ?_
      rintro e w' ⟨rfl, hb⟩
      have ha : addP x n l = (false, l) := by unfold addP; rw [if_neg hn0, hc0, Int.zero_add, if_pos hneg]
      exact ⟨p, c, by rw [ha], by rw [ha]; exact owns60_below hO hb, hb⟩
    · refine Calls.mono (radd_ins base p c l x n w hO hn hth (by omega)) ?_
      rintro e w' ⟨p', c', rfl, h1, hb⟩
      have ha : addP x n l = (true, l.take (posK x.1 l) ++ (x, n) :: l.drop (posK x.1 l)) := by
        unfold addP
        rw [if_neg hn0, hc0, Int.zero_add, if_neg hneg, if_neg hn0, if_neg (by rw [hth]; decide)]
      exact ⟨p', c', by rw [ha], by rw [ha]; exact owns60_mono h1 hbase, hb⟩
  | true =>
    obtain ⟨hp, _⟩ := there_lt hth
    have hc := cnt_there hth hp
    have hcb := hy _ (List.getElem_mem hp)
    rw [← hc] at hcb
    by_cases hneg : cntK x.1 l + n < 0
    · refine Calls.mono (radd_thereNo base p c l x n w hO hn hth (by omega) hneg (by omega) hnb) ?_
      rintro e w' ⟨rfl, hb⟩
      have ha : addP x n l = (false, l) := by unfold addP; rw [if_neg hn0, if_pos hneg]
      exact ⟨p, c, by rw [ha], by rw [ha]; exact owns60_below hO hb, hb⟩
    · by_cases hz : cntK x.1 l + n = 0
      · refine Calls.mono (radd_del base p c l x n w hO hn hth hn0 hz (by omega)) ?_
        rintro e w' ⟨p', c', rfl, h1, hb⟩
        have ha : addP x n l = (true, l.eraseIdx (posK x.1 l)) := by unfold addP; rw [if_neg hn0, if_neg hneg, if_pos hz]
        exact ⟨p', c', by rw [ha], by rw [ha]; exact owns60_mono h1 hbase, hb⟩
      · refine Calls.mono (radd_set base p c l x n w hO hn hth hn0 (by omega) (by omega) hnb) ?_
        rintro e w' ⟨p', c', rfl, h1, hb⟩
        have ha : addP x n l = (true, l.set (posK x.1 l) ((l[posK x.1 l]?.getD ((0, 0), 0)).1, cntK x.1 l + n)) := by
          unfold addP
          rw [if_neg hn0, if_neg hneg, if_neg hz, if_pos hth, List.getElem?_eq_getElem hp]
          rfl
        exact ⟨p', c', by rw [ha], by rw [ha]; exact owns60_mono h1 hbase, hb⟩
end Go.Proofs.Ytlbmamkkbpjafaa
