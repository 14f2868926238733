/- What made answers: a bag and the document's bag of these things. -/
import Derived.Test.YtlbmamkkbpjafaaBPl2
import Derived.Test.YtlbmamkkbpjafaaDAddE
import Derived.Deep.RegionWith
namespace Go.Proofs.Ytlbmamkkbpjafaa
open Go.RowKit Go.Deep

/-- Both bags, as the play goes. -/
structure PlSt (w wr : World) (B Y : Nat) (l : List It) (p : Option Addr) (c : Nat) (q : Option Addr) (d : Nat) : Prop where
  bag : BagAt w.heap.size B wr l p c
  box : wr.heap[Y]? = some (.cells #[.slice q l.length d] 27 (0, 0))
  row : wr.ownsRow w.heap.size 60 3 (.slice q l.length d) l.length (itAll l)
  hB : w.heap.size ≤ B
  hY : w.heap.size ≤ Y
  srt : Srt l
  pos : ∀ y ∈ l, 1 ≤ y.2
  low : Below w.heap.size w wr
theorem PlSt.below {w wr wr' : World} {B Y : Nat} {l : List It} {p : Option Addr} {c : Nat} {q : Option Addr} {d : Nat} (h : PlSt w wr B Y l p c q d) (hb : Below wr.heap.size wr wr') : PlSt w wr' B Y l p c q d :=
  ⟨h.bag.below hb, (hb.block _ (Array.getElem?_eq_some_iff.1 h.box).1).trans h.box, owns60_below h.row hb, h.hB, h.hY, h.srt, h.pos, h.low.trans (hb.mono h.low.size)⟩
theorem PlSt.len {w wr : World} {B Y : Nat} {l : List It} {p : Option Addr} {c : Nat} {q : Option Addr} {d : Nat} (h : PlSt w wr B Y l p c q d) {N : Nat} (hN : sumN l ≤ (N : Int)) : l.length ≤ N := by
  have := len_sum l h.pos
  omega
theorem set1 {W : World} {g : Nat} {u v : Value} {t : TypeId} (h : W.heap[g]? = some (.cells #[u] t (0, 0))) : (W.setCell ⟨g, 0, none⟩ v).heap[g]? = some (.cells #[v] t (0, 0)) := block_set h v
theorem results_tc2 {fn : Func} {tmps : Array Value} {w : World} {B : Nat} {v : Value} {t : TypeId} (h : fn.results = #[.tmp 2, .cell 3 27]) (h3 : tmps.getD 3 undef = .pointer (some ⟨B, 0, none⟩)) (hx : w.heap[B]? = some (.cells #[v] t (0, 0))) : (results fn tmps).run Try.prog w = .ok (.tuple #[tmps.getD 2 undef, .agg #[v]]) w := by
  have h3' : tmps[3]?.getD undef = .pointer (some ⟨B, 0, none⟩) := by simpa using h3
  simp [results, h, h3', asAddr, load_bag hx]
theorem owns60_far {W : World} {base n Y i : Nat} {v : Value} {xs : List Value} {cs : Array Value} {t : TypeId} (h : W.ownsRow base 60 3 v n xs) (hY : W.heap[Y]? = some (.cells cs t (0, 0))) (ht : t ≠ 60) (u : Value) : (W.setCell ⟨Y, i, none⟩ u).ownsRow base 60 3 v n xs := by
  refine owns60_fr h (fr_set W Y i u) fun k hk e => ?_
  rcases h.2 with ⟨h1, _⟩ | ⟨g, cap, cur, h1, _, hg, _⟩
  · rw [h1] at hk
    cases hk
  · rw [h1] at hk
    have e2 : some g = some k := hk
    rw [Option.some.inj e2, e] at hg
    have e3 := hg.symm.trans hY
    injection e3 with e3
    injection e3 with _ e3 _
    exact ht e3.symm
theorem bag_far {W : World} {base B : Nat} {l : List It} {p : Option Addr} {c : Nat} (h : BagAt base B W l p c) {Y i : Nat} {cs : Array Value} {t : TypeId} (hY : W.heap[Y]? = some (.cells cs t (0, 0))) (h1 : t ≠ 63) (h2 : t ≠ 65) (u : Value) : BagAt base B (W.setCell ⟨Y, i, none⟩ u) l p c := by
  have hne := bag_apart h hY h1 h2
  exact ⟨(set_far (fun e => hne (.inl e.symm)) _).trans h.1, owns_fr h.2.1 (fr_set W Y i u) (fun k hk e => hne (.inr (by rw [← own_eq p l.length c, hk, e]))), h.2.2⟩
theorem cnt_bd {l : List It} (hy : ∀ y ∈ l, 1 ≤ y.2) (k : Int) : 0 ≤ cntK k l ∧ cntK k l ≤ sumN l := by
  cases hth : thereB k l with
  | false =>
    have hc0 : cntK k l = 0 := by unfold cntK; rw [hth]; rfl
    have := sumN_nn l hy
    omega
  | true =>
    obtain ⟨hp, _⟩ := there_lt hth
    rw [cnt_there hth hp]
    have := sumN_le l hy _ hp
    omega
theorem add1_ok (x : Th) (l : List It) (hy : ∀ y ∈ l, 1 ≤ y.2) : (addP x 1 l).1 = true := by
  have h := cnt_bd hy x.1
  unfold addP
  rw [if_neg (by decide), if_neg (by omega), if_neg (by omega)]
  split <;> rfl
/-- One thing more. -/
def add1 (m : List It) (x : Th) : List It := (addP x 1 m).2
/-- The bag of these things. -/
def mkP (l : List Th) : List It := l.foldl add1 []
theorem mkP_snoc (l : List Th) (x : Th) : mkP (l ++ [x]) = add1 (mkP l) x := by unfold mkP; rw [List.foldl_append]; rfl
theorem mkP_take (l : List Th) (i : Nat) (h : i < l.length) : mkP (l.take (i + 1)) = add1 (mkP (l.take i)) l[i] := by rw [List.take_succ_eq_append_getElem h, mkP_snoc]
theorem mkP_all (l : List Th) : Srt (mkP l) ∧ (∀ y ∈ mkP l, 1 ≤ y.2) ∧ sumN (mkP l) = l.length := by
  suffices h : ∀ (r : List Th), Srt (mkP r.reverse) ∧ (∀ y ∈ mkP r.reverse, 1 ≤ y.2) ∧ sumN (mkP r.reverse) = r.reverse.length by
    have := h l.reverse
    rwa [List.reverse_reverse] at this
  intro r
  induction r with
  | nil => exact ⟨fun i j hi => absurd hi (Nat.not_lt_zero _), fun y hy => absurd hy (by simp [mkP]), rfl⟩
  | cons x r ih =>
    rw [List.reverse_cons, mkP_snoc]
    refine ⟨addP_srt x 1 _ ih.1, addP_pos x 1 _ ih.2.1, ?_⟩
    show sumN (addP x 1 (mkP r.reverse)).2 = _
    rw [addP_sum, if_pos (add1_ok x _ ih.2.1), ih.2.2, List.length_append]
    rfl
set_option maxRecDepth 100000 in
set_option maxHeartbeats 8000000 in
theorem made_any (a : Option Addr) (c : Nat) (l : List Th) (w : World) (hT : ThsAt w a l.length l) (hn : l.length ≤ 1048576) :
    Calls Try.prog 9 #[.slice a l.length c] w fun e w' => ∃ B p c' q d, e = .returned (.tuple #[.pointer (some ⟨B, 0, none⟩), .agg #[.slice q (mkP l).length d]]) ∧ BagAt w.heap.size B w' (mkP l) p c' ∧ w'.ownsRow w.heap.size 60 3 (.slice q (mkP l).length d) (mkP l).length (itAll (mkP l)) ∧ w.heap.size ≤ B ∧ Below w.heap.size w w' := by
  have X0 : YBox (w.alloc (.cells #[.slice none 0 0] 27)) w.heap.size := World.alloc_heap_new w _
  have B0 := hid (alloc_below0 w (.cells #[.slice none 0 0] 27))
  have HX0 := hid X0; have HT := hid hT
  clear X0 hT
  go_enter Try.func9, Try.ntmps9
  go_wp2_with fail
  generalize hV : w.alloc (.cells #[.slice none 0 0] 27) = V0 at B0 HX0 ⊢
  clear hV
  refine (new_ord V0).mono ?_
  rintro e w1 ⟨B, rfl, hB, hz, hb⟩
  have hV0 : w.heap.size < V0.heap.size := HX0.out.lt
  have B1 := alloc_below0 w1 (.cells #[.slice none 0 0] 27)
  have HB := hid (hB.below B1)
  have HX := hid ((HX0.out.below hb).below B1)
  have Y1 : Hid (YBox (w1.alloc (.cells #[.slice none 0 0] 27)) w1.heap.size) := World.alloc_heap_new w1 _
  have L1 : Hid (Below w.heap.size w (w1.alloc (.cells #[.slice none 0 0] 27))) := hid ((B0.out.trans (hb.mono B0.out.size)).alloc (B0.out.trans (hb.mono B0.out.size)).size _)
  have hw1 : w.heap.size < w1.heap.size := Nat.lt_of_lt_of_le hV0 hb.size
  clear hB hb B1
  go_wp2_with fail
  generalize hV : w1.alloc (.cells #[.slice none 0 0] 27) = V1 at HB HX Y1 L1 ⊢
  clear hV
  generalize w1.heap.size = Y at Y1 hw1 ⊢
  go_loopw [6] (fun ov wr => ∃ (i : Nat) (p : Option Addr) (c' : Nat) (q : Option Addr) (d : Nat), ov = .int .i64 i ∧ i ≤ l.length ∧ PlSt w wr B Y (mkP (l.take i)) p c' q d ∧ YBox wr w.heap.size) (fun ov _ => l.length - (intOf ov).toNat)
  case atStart => exact ⟨0, none, 0, none, 0, rfl, Nat.zero_le _, ⟨⟨HB.out, World.ownsRow_nil _ _ _ _, fun h => by cases h⟩, Y1.out, World.ownsRow_nil _ _ _ _, by omega, by omega, (mkP_all _).1, (mkP_all _).2.1, L1.out⟩, HX.out⟩
  case round =>
    obtain ⟨i, p, c', q, d, rfl, hi, hst, hx⟩ := hrel
    have HST := hid hst; have HXr := hid hx
    have hall := mkP_all (l.take i)
    have hlen : (mkP (l.take i)).length ≤ 1048576 := hst.len (by rw [hall.2.2, List.length_take]; omega)
    have hsum : sumN (mkP (l.take i)) ≤ 1048576 := by rw [hall.2.2, List.length_take]; omega
    have y0 : wr.cell? ⟨Y, 0, none⟩ = some (.slice q (mkP (l.take i)).length d) := cell_box hst.box rfl
    by_cases hlt : i < l.length
    · have hmk := mkP_take l i hlt
      have hcb := cnt_bd hst.pos l[i].1
      have hadd := add_any w.heap.size B p c' (mkP (l.take i)) l[i] 1 wr hst.bag hst.low.size hst.srt hlen (by omega) (by omega)
      obtain ⟨b1, o1, rfl, e1, e2⟩ := (HT.out.below (hst.low.mono (Nat.le_refl _))).cells i hlt
      have HR : Hid (∀ W, W.ownsRow w.heap.size 60 3 (.slice q (mkP (l.take i)).length d) (mkP (l.take i)).length (itAll (mkP (l.take i))) → w.heap.size ≤ W.heap.size → Calls Try.prog 10 #[.agg #[.slice q (mkP (l.take i)).length d], thV l[i], .int .i64 1] W (RAddAll w.heap.size l[i] 1 (mkP (l.take i)) W)) := hid fun W hO hW => radd_any w.heap.size q d (mkP (l.take i)) l[i] 1 W hO hW hlen (fun y hy => ⟨hst.pos y hy, by
        obtain ⟨k, hk, rfl⟩ := List.getElem_of_mem hy
        have := sumN_le _ hst.pos k hk
        omega⟩) (by omega)
      have HMK := hid hmk
      obtain ⟨x, hxx⟩ : ∃ x, l[i] = x := ⟨_, rfl⟩
      rw [hxx] at hadd e1 e2 HR HMK
      obtain ⟨xk, xm⟩ := x
      generalize mkP (l.take i) = M at hadd HR HMK hlen HST y0 hall hsum
      dsimp only [thV] at e1 e2 hadd HR
      have HADD := hid hadd
      have HE : Hid (∀ W, Below w.heap.size w W → W.cell? ⟨b1, o1 + i * 2, none⟩ = some (.int .i64 xk) ∧ W.cell? ⟨b1, o1 + i * 2 + 1, none⟩ = some (.int .i64 xm)) := hid fun W hW => by
        obtain ⟨b1', o1', h1, h2, h3⟩ := (HT.out.below hW).cells i hlt
        cases h1
        rw [hxx] at h2 h3
        exact ⟨h2, h3⟩
      clear hadd hst hx hmk hall hcb hxx
      go_wp2_with fail
      refine HADD.out.mono ?_
      rintro e w3 ⟨p', c2, rfl, hA3, hF3, hp3⟩
      have hL3 : Below w.heap.size wr w3 := hF3.below (fun k hk => by
        rcases hk with rfl | hk
        · exact HST.out.hB
        · exact (HST.out.bag.2.1.lt k (by rw [own_eq]; exact hk)).1) HST.out.low.size
      have hY3 : w3.heap[Y]? = some (.cells #[.slice q M.length d] 27 (0, 0)) := (hF3.same Y (Array.getElem?_eq_some_iff.1 HST.out.box).1 (bag_apart HST.out.bag HST.out.box (by decide) (by decide))).trans HST.out.box
      have hX3 : YBox w3 w.heap.size := (hF3.same _ HXr.out.lt (bag_apart HST.out.bag HXr.out (by decide) (by decide))).trans HXr.out
      have hO3 := owns60_add HST.out.bag HST.out.row hF3
      have hW3 := HST.out.low.trans hL3
      obtain ⟨e1, e2⟩ := HE.out w3 hW3
      have y3 : w3.cell? ⟨Y, 0, none⟩ = some (.slice q M.length d) := cell_box hY3 rfl
      have z3 : w3.frozen? ⟨Y, 0, none⟩ = false := by simp [World.frozen?, hY3]
      have Q0 := hid y3; have Q1 := hid e1; have Q2 := hid e2; have Z3 := hid z3
      have HY3 := hid hY3; have HX3 := hid hX3; have HO3 := hid hO3; have HW3 := hid hW3; have HA3 := hid hA3
      clear hL3 hY3 hX3 hO3 hW3 hA3 hF3 hp3 y3 z3 y0 e1 e2 HADD
      go_wp2_with fail
      have y3 := Q0.out; have e1 := Q1.out; have e2 := Q2.out
      go_region_with ((first
        | (go_at_call 10; refine Calls.mono (HR.out _ HO3.out HW3.out.size) ?_; rintro e w4 ⟨q', d', rfl, ho4, hb4⟩; have HO4 := hid ho4; have HB4 : Hid (Below w3.heap.size w3 w4) := ((Below.refl _ w3).drew).trans hb4; have hY4 : w4.heap[Y]? = some (.cells #[.slice q M.length d] 27 (0, 0)) := (hb4.block Y (Array.getElem?_eq_some_iff.1 HY3.out).1).trans HY3.out; have HY4 := hid hY4; have y4 : w4.cell? ⟨Y, 0, none⟩ = some (.slice q M.length d) := cell_box hY4 rfl; have z4 : w4.frozen? ⟨Y, 0, none⟩ = false := (by simp [World.frozen?, hY4]); clear ho4 hb4 hY4)
        | fail))
      all_goals
        go_wp2_with fail
        go_roundw
        case rel =>
          refine ⟨i + 1, p', c2, q', d', by go_num, by omega, ?_, ?_⟩
          · rw [HMK.out]
            exact ⟨bag_far (HA3.out.below HB4.out) HY4.out (by decide) (by decide) _, set1 HY4.out, owns60_far HO4.out HY4.out (by decide) _, HST.out.hB, HST.out.hY, addP_srt _ 1 _ HST.out.srt, addP_pos _ 1 _ HST.out.pos, (HW3.out.trans (HB4.out.mono HW3.out.size)).setCell (p := ⟨Y, 0, none⟩) HST.out.hY _⟩
          · exact (set_far (by omega) _).trans (HX3.out.below HB4.out)
        case measure => simp [intOf]; omega
    · have he : i = l.length := by omega
      have ht : l.take i = l := List.take_of_length_le (by omega)
      rw [ht] at y0 HST
      have x0 := hx.c0; have z0 := hx.f
      clear hall hlen hsum hst hx
      go_wp2
      go_region
      all_goals
        go_wp2
        have hY : (wr.setCell ⟨w.heap.size, 0, none⟩ (.slice q (mkP l).length d)).drew.heap[w.heap.size]? = some (.cells #[.slice q (mkP l).length d] 27 (0, 0)) := set1 HXr.out
        refine bodyPost_ret (results_tc2 rfl rfl hY) rfl ?_
        exact ⟨B, p, c', q, d, rfl, bag_far HST.out.bag HXr.out (by decide) (by decide) _, World.ownsRow.drew (owns60_far HST.out.row HXr.out (by decide) _), HST.out.hB, (HST.out.low.setCell (p := ⟨w.heap.size, 0, none⟩) (Nat.le_refl _) _).drew⟩
end Go.Proofs.Ytlbmamkkbpjafaa
