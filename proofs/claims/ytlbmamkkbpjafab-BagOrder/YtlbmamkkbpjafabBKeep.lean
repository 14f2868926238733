/- What keep answers. -/
import Derived.Test.YtlbmamkkbpjafabBJoin
namespace Go.Proofs.Ytlbmamkkbpjafab
open Go.RowKit Go.Deep

/-- The items, each as often as is said. -/
def keepP (f : It → Int) (l : List It) : List It := l.flatMap fun y => if 0 < f y then [(y.1, f y)] else []
theorem keepP_take (f : It → Int) (l : List It) (i : Nat) (h : i < l.length) : keepP f (l.take (i + 1)) = keepP f (l.take i) ++ (if 0 < f l[i] then [(l[i].1, f l[i])] else []) := by
  unfold keepP
  rw [List.take_succ_eq_append_getElem h, List.flatMap_append]
  simp
theorem keepP_len (f : It → Int) : ∀ l : List It, (keepP f l).length ≤ l.length
  | [] => Nat.le_refl _
  | y :: r => by
    have h := keepP_len f r
    show ((if 0 < f y then [(y.1, f y)] else []) ++ keepP f r).length ≤ r.length + 1
    rw [List.length_append]
    split
    · show 1 + _ ≤ _
      omega
    · show 0 + _ ≤ _
      omega
set_option maxRecDepth 100000 in
set_option maxHeartbeats 8000000 in
theorem keep_any (K : Nat) (cb : Array Value) (eg : ∀ args w, (callFunc K args).run Try.prog w = .ok (.enter K args) w) (B base : Nat) (v0 : Value) (p : Option Addr) (c : Nat) (l : List It) (f : It → Int) (w : World) (hB : BagBox w B v0) (hO : w.ownsRow base 32 3 (.slice p l.length c) l.length (itAll l)) (hn : l.length ≤ 1048576)
    (hK : ∀ W, Below w.heap.size w W → ∀ (i : Nat) (h : i < l.length), Calls Try.prog K (#[.int .i64 i, itV l[i]] ++ cb) W fun e w' => e = .returned (.int .i64 (f l[i])) ∧ Below W.heap.size W w') :
    Calls Try.prog 21 #[.pointer (some ⟨B, 0, none⟩), .slice p l.length c, .func (.func K) #[] cb] w (NewBag w (keepP f l)) := by
  obtain ⟨i0, hi0, hz0, hz1, hz2⟩ := info_parts Try.info32
  have k0 := hB.c0
  have b0 := alloc_below0 w (.cells #[ordV, .slice none 0 0] 42)
  have n0 := World.alloc_heap_new w (.cells #[ordV, .slice none 0 0] 42)
  have N0 := hid n0; have B0 := hid b0; have HO := hid hO; have HK := hid hK
  clear hB hO hK b0 n0
  have hVs : (w.alloc (.cells #[ordV, .slice none 0 0] 42)).heap.size = w.heap.size + 1 := World.size_alloc _ _
  go_enter Try.func21, Try.ntmps21
  go_wp2_with fail
  clear k0
  generalize w.alloc (.cells #[ordV, .slice none 0 0] 42) = V at N0 B0 hVs ⊢
  go_loopw [8, 9, 10, 19] (fun _ _ _ iv wr => ∃ (i : Nat) (q : Option Addr) (d : Nat), iv = .int .i64 i ∧ i ≤ l.length ∧ BagAt V.heap.size w.heap.size wr (keepP f (l.take i)) q d ∧ Below w.heap.size w wr ∧ V.heap.size ≤ wr.heap.size) (fun _ _ _ iv _ => l.length - (intOf iv).toNat)
  case atStart => exact ⟨0, none, 0, rfl, Nat.zero_le _, ⟨N0.out, World.ownsRow_nil _ _ _ _, fun h => by cases h⟩, B0.out, Nat.le_refl _⟩
  case round =>
    obtain ⟨i, q, d, rfl, hi, hbg, hbl, hVw⟩ := hrel
    have HBG := hid hbg; have HBl := hid hbl
    clear hbg hbl
    by_cases hlt : i < l.length
    · obtain ⟨b1, o1, hp1, e1, e2, e3⟩ := (owns_its (owns65_below HO.out HBl.out)).cells i hlt
      subst hp1
      have htk := keepP_take f l i hlt
      have hkl := keepP_len f (l.take i)
      rw [List.length_take] at hkl
      have HKi : Hid (∀ W, Below w.heap.size w W → Calls Try.prog K (#[.int .i64 i, itV l[i]] ++ cb) W fun e w' => e = .returned (.int .i64 (f l[i])) ∧ Below W.heap.size W w') := hid fun W hW => HK.out W hW i hlt
      obtain ⟨y, hy⟩ : ∃ y, l[i] = y := ⟨_, rfl⟩
      rw [hy] at e1 e2 e3 htk HKi
      obtain ⟨fy, hfy⟩ : ∃ fy, f y = fy := ⟨_, rfl⟩
      rw [hfy] at htk HKi
      obtain ⟨⟨yk, ym⟩, yn⟩ := y
      dsimp only [itV] at e1 e2 e3 htk HKi
      have b4 := alloc_below0 wr (.cells #[.int .i64 yk, .int .i64 ym, .int .i64 yn] 32)
      have N4 := hid (World.alloc_heap_new wr (.cells #[.int .i64 yk, .int .i64 ym, .int .i64 yn] 32))
      have HB4 := hid (HBl.out.trans (b4.mono HBl.out.size))
      have HBG4 := hid (HBG.out.below b4)
      have j0 : (wr.alloc (.cells #[.int .i64 yk, .int .i64 ym, .int .i64 yn] 32)).cell? ⟨wr.heap.size, 0, none⟩ = some (.int .i64 yk) := cell_box N4.out rfl
      have hV4 : V.heap.size ≤ (wr.alloc (.cells #[.int .i64 yk, .int .i64 ym, .int .i64 yn] 32)).heap.size := by rw [World.size_alloc]; omega
      have HTK := hid htk
      clear b4 htk hy hfy HK
      go_wp2_with fail
      clear e1 e2 e3 j0
      generalize wr.alloc (.cells #[.int .i64 yk, .int .i64 ym, .int .i64 yn] 32) = V4 at N4 HB4 HBG4 hV4 ⊢
      generalize wr.heap.size = X at N4 ⊢
      generalize keepP f (l.take i) = acc at HBG HBG4 HTK hkl
      refine (HKi.out V4 HB4.out).mono ?_
      rintro e w5 ⟨rfl, hb5⟩
      have HBG5 := hid (HBG4.out.below hb5); have HB5 := hid (HB4.out.trans (hb5.mono HB4.out.size))
      have N5 := hid ((hb5.block X (Array.getElem?_eq_some_iff.1 N4.out).1).trans N4.out)
      have hV5 := Nat.le_trans hV4 hb5.size
      clear hb5 HKi N4 HBG HBG4
      by_cases hf0 : 0 < fy
      · have x0 : w5.cell? ⟨X, 0, none⟩ = some (.int .i64 yk) := cell_box N5.out rfl
        have x1 : w5.cell? ⟨X, 1, none⟩ = some (.int .i64 ym) := cell_box N5.out rfl
        have r1 := HBG5.out.1.c1; have rf := HBG5.out.1.f (i := 1)
        rw [if_pos hf0] at HTK
        have hXl : X < w5.heap.size := (Array.getElem?_eq_some_iff.1 N5.out).1
        have hKl : w.heap.size < w5.heap.size := HBG5.out.1.lt
        go_wp2_with fail
        go_region_law (refine step_append_lies _ (by rfl) (.tmp 34) (.tmp 39) 29 (by rfl) V.heap.size 32 i0 _ 3 24 Try.underlying29 hi0 hz0 hz1 hz2 rfl (by decide) (.slice q acc.length d) acc.length (itAll acc) (by rfl) (owns65_below HBG5.out.2.1 ((Below.refl _ w5).alloc (Nat.le_refl _) _).drew) ⟨w5.heap.size, 0, none⟩ 1 1 (itCells ((yk, ym), fy)) (by rfl) rfl (World.news_of_block (heap_alloc_new w5 _)) (itCells_one _) (by decide) (by unfold maxLen; omega) (by omega) (by simp; omega) _ rfl ?_; intro g4 cap4 w4 hown4 hgrow4 hat4 hlt4; have R4 : Hid (BagBox w4 w.heap.size (.slice q acc.length d)) := hid ((hgrow4.block w.heap.size (by simp; omega) (fun e => HBG5.out.2.2 (by rw [← own_eq q acc.length d]; exact e.symm))).trans (HBG5.out.1.below (alloc_below0 w5 _).drew)); have r4 := R4.out.c1; have rf4 := R4.out.f (i := 1); have HO4 := hid hown4; have HG4 := hid hgrow4; have HA4 := hid hat4; clear hown4 hgrow4 hat4)
        all_goals
          go_wp2_with fail
          have hg4 : V.heap.size ≤ g4 := (HO4.out.lt g4 rfl).1
          have hal := (alloc_below0 w5 (.cells #[.int .i64 yk, .int .i64 ym, .int .i64 fy] 32)).drew
          have hb6 := HB5.out.trans (hal.mono HB5.out.size)
          have hb7 : Below w.heap.size w w4 := hb6.trans ((fr_grown HG4.out).below (fun k hk => by have := (HBG5.out.2.1.lt k hk).1; omega) hb6.size)
          have hla : (acc ++ [((yk, ym), fy)]).length = acc.length + 1 := by simp
          refine ⟨⟨i + 1, some ⟨g4, 0, none⟩, cap4, by go_num, by omega, ?_, hb7.setCell (p := ⟨w.heap.size, 1, none⟩) (Nat.le_refl _) _, ?_⟩, by simp [intOf]; omega⟩
          · rw [HTK.out]
            refine ⟨?_, ?_, fun e => ?_⟩
            · rw [hla]
              exact bag_set R4.out _
            · rw [hla, itAll_append, show itAll [((yk, ym), fy)] = itCells ((yk, ym), fy) from by show itCells _ ++ [] = _; rw [List.append_nil]]
              exact owns_fr HO4.out (fr_set w4 w.heap.size 1 _) (fun k hk e => by have h7 : some g4 = some k := hk; have := Option.some.inj h7; omega)
            · have h7 : some g4 = some w.heap.size := e
              have := Option.some.inj h7
              omega
          · have h8 := HG4.out.size
            have h9 := hal.size
            rw [World.size_setCell]
            omega
      · rw [if_neg hf0, List.append_nil] at HTK
        go_wp2_with fail
        go_roundw
        case rel => exact ⟨i + 1, q, d, by go_num, by omega, by rw [HTK.out]; exact HBG5.out, HB5.out, hV5⟩
        case measure => simp [intOf]; omega
    · have ht : l.take i = l := List.take_of_length_le (by omega)
      rw [ht] at HBG
      go_wp2_with fail
      go_ret
      exact ⟨w.heap.size, q, d, rfl, ⟨HBG.out.1, owns65_mono HBG.out.2.1 (by omega), HBG.out.2.2⟩, Nat.le_refl _, HBl.out⟩
end Go.Proofs.Ytlbmamkkbpjafab
