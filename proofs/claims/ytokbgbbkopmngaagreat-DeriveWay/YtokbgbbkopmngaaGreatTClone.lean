/- What Clone of package terms makes: the term in new memory. -/
import Derived.Test.YtokbgbbkopmngaaGreatTSep
namespace Go.Proofs.YtokbgbbkopmngaaGreat
open Go.RowKit Go.Deep

def CloneOk (k : Nat) : Prop := ∀ (x : ByteArray × Int) (l : Fo) (a : Option Addr) (c : Nat) (w : World), nodesF l ≤ k → TmAt w x a c l →
  Calls Tryz.prog 23 #[.agg #[.string x.1, .int .i64 x.2, .slice a (lenF l) c]] w fun e w' => ∃ a' c', e = .returned (.agg #[.string x.1, .int .i64 x.2, .slice a' (lenF l) c']) ∧ SepTm w' (fun k => w.heap.size ≤ k) x a' c' l ∧ Below w.heap.size w w' ∧ (lenF l = 0 → a' = none ∧ c' = 0)

/-- A fresh row, some of whose places are filled. -/
structure Fill (w : World) (n : Nat) (W : World) (ks : List Kv) : Prop where
  low : Below w.heap.size w W
  row : ∃ cur, W.heap[w.heap.size]? = some (Obj.cells cur 26 (0, 0)) ∧ cur.size = n * 3 ∧ ∀ (i : Nat) (u : Value), (kvCells ks)[i]? = some u → cur[i]? = some u
  own : SepL W ks (fun q => w.heap.size < q ∧ q < W.heap.size)
theorem Fill.cell {w : World} {n : Nat} {W : World} {ks : List Kv} (h : Fill w n W ks) {i : Nat} (hi : i < n * 3) : ∃ v, W.cell? ⟨w.heap.size, i, none⟩ = some v := by
  obtain ⟨cur, h1, h2, _⟩ := h.row
  exact ⟨cur[i]'(by omega), by rw [cell_of_row W w.heap.size i cur 26 (0, 0) h1]; simp [show i < cur.size by omega]⟩
theorem Fill.frozen {w : World} {n : Nat} {W : World} {ks : List Kv} (h : Fill w n W ks) (i : Nat) : W.frozen? ⟨w.heap.size, i, none⟩ = false := by
  obtain ⟨cur, h1, _⟩ := h.row
  simp [World.frozen?, h1]
/-- What the callee has made is stored at its place. -/
theorem Fill.step {w wr w1 : World} {n : Nat} {ks : List Kv} {kv : Kv} (h : Fill w n wr ks) (hb : Below wr.heap.size wr w1) (hk : SepTm w1 (fun q => wr.heap.size ≤ q) kv.x kv.a kv.c kv.l) (hlt : ks.length < n) :
    Fill w n (((w1.setCell ⟨w.heap.size, ks.length * 3, none⟩ (.string kv.x.1)).setCell ⟨w.heap.size, ks.length * 3 + 1, none⟩ (.int .i64 kv.x.2)).setCell ⟨w.heap.size, ks.length * 3 + 2, none⟩ (.slice kv.a (lenF kv.l) kv.c)) (ks ++ [kv]) := by
  obtain ⟨cur, h1, h2, h3⟩ := h.row
  have hglt : w.heap.size < wr.heap.size := (Array.getElem?_eq_some_iff.1 h1).1
  have h1' : w1.heap[w.heap.size]? = some (Obj.cells cur 26 (0, 0)) := (hb.block _ hglt).trans h1
  have far : ∀ q, w.heap.size < q → (((w1.setCell ⟨w.heap.size, ks.length * 3, none⟩ (.string kv.x.1)).setCell ⟨w.heap.size, ks.length * 3 + 1, none⟩ (.int .i64 kv.x.2)).setCell ⟨w.heap.size, ks.length * 3 + 2, none⟩ (.slice kv.a (lenF kv.l) kv.c)).heap[q]? = w1.heap[q]? := fun q hq => by
    rw [Below.heap_setCell _ _ _ q (by show q ≠ w.heap.size; omega), Below.heap_setCell _ _ _ q (by show q ≠ w.heap.size; omega), Below.heap_setCell _ _ _ q (by show q ≠ w.heap.size; omega)]
  refine ⟨?_, ⟨_, block_set (block_set (block_set h1' _) _) _, by simp [h2], ?_⟩, ?_⟩
  · exact (((h.low.trans (hb.mono h.low.size)).setCell (p := ⟨w.heap.size, ks.length * 3, none⟩) (Nat.le_refl _) _).setCell (p := ⟨w.heap.size, ks.length * 3 + 1, none⟩) (Nat.le_refl _) _).setCell (p := ⟨w.heap.size, ks.length * 3 + 2, none⟩) (Nat.le_refl _) _
  · intro i u hu
    rw [kvCells_snoc] at hu
    have hl := kvCells_len ks
    have hkl : kv.cells.length = 3 := rfl
    have hi : i < ks.length * 3 + 3 := by
      rcases Nat.lt_or_ge i (ks.length * 3 + 3) with h' | h'
      · exact h'
      · rw [List.getElem?_eq_none (by rw [List.length_append]; omega)] at hu; cases hu
    simp only [Array.getElem?_setIfInBounds, Array.size_setIfInBounds]
    by_cases hc : i < ks.length * 3
    · rw [List.getElem?_append_left (by omega)] at hu
      rw [if_neg (by omega), if_neg (by omega), if_neg (by omega)]
      exact h3 i u hu
    · rw [List.getElem?_append_right (by omega), hl] at hu
      have hcase : i = ks.length * 3 ∨ i = ks.length * 3 + 1 ∨ i = ks.length * 3 + 2 := by omega
      rcases hcase with e | e | e
      · subst e
        rw [if_neg (by omega), if_neg (by omega), if_pos rfl, if_pos (by omega)]
        simpa [Kv.cells] using hu
      · subst e
        rw [if_neg (by omega), if_pos rfl, if_pos (by omega)]
        rw [show ks.length * 3 + 1 - ks.length * 3 = 1 by omega] at hu
        simpa [Kv.cells] using hu
      · subst e
        rw [if_pos rfl, if_pos (by omega)]
        rw [show ks.length * 3 + 2 - ks.length * 3 = 2 by omega] at hu
        simpa [Kv.cells] using hu
  · have h5 : SepL w1 ks (fun q => w.heap.size < q ∧ q < wr.heap.size) := h.own.keep (fun q hq hlt => hb.block q hlt)
    have h6 := SepL.snoc hk.within (fun q hq => by intro h'; have := hq.2; have := h'.1; omega) h5
    have hsz : (((w1.setCell ⟨w.heap.size, ks.length * 3, none⟩ (.string kv.x.1)).setCell ⟨w.heap.size, ks.length * 3 + 1, none⟩ (.int .i64 kv.x.2)).setCell ⟨w.heap.size, ks.length * 3 + 2, none⟩ (.slice kv.a (lenF kv.l) kv.c)).heap.size = w1.heap.size := by simp
    rw [hsz]
    have hbs := hb.size
    refine (h6.keep (fun q hq _ => far q ?_)).mono (fun q hq => ?_)
    · rcases hq with hq | hq
      · exact hq.1
      · have := hq.1; omega
    · rcases hq with hq | hq
      · exact ⟨hq.1, by omega⟩
      · exact ⟨by have := hq.1; omega, hq.2⟩
theorem Fill.done {w W : World} {x : ByteArray × Int} {l : Fo} {ks : List Kv} (h : Fill w (lenF l) W ks) (hks : ks.map (fun k => (k.x, k.l)) = kidsL l) (hx : x.1.size ≤ maxLen) (hn : lenF l ≤ maxLen) (hf : lenF l * 48 ≤ 140737488351232) :
    SepTm W (fun q => w.heap.size ≤ q) x (some ⟨w.heap.size, 0, none⟩) (lenF l) l := by
  obtain ⟨cur, h1, h2, h3⟩ := h.row
  refine ⟨⟨hx, Nat.le_refl _, hn, hf⟩, .inr ⟨w.heap.size, cur, rfl, Nat.le_refl _, h1, ?_⟩⟩
  refine sepKids_of l ks _ 0 hks (fun j u hu => ?_) (h.own.mono (fun q hq => ⟨by have := hq.1; omega, by have := hq.1; omega⟩))
  rw [Nat.zero_add, cell_of_row W w.heap.size j cur 26 (0, 0) h1]
  exact h3 j u hu

set_option maxRecDepth 100000 in
set_option maxHeartbeats 2000000 in
theorem cloneList_any (k : Nat) (ih : ∀ j, j < k → CloneOk j) (x : ByteArray × Int) (l : Fo) (a : Option Addr) (c : Nat) (w : World) (hk : nodesF l ≤ k) (hT : TmAt w x a c l) :
    Calls Tryz.prog 36 #[.slice a (lenF l) c] w fun e w' => ∃ a' c', e = .returned (.slice a' (lenF l) c') ∧ SepTm w' (fun k => w.heap.size ≤ k) x a' c' l ∧ Below w.heap.size w w' ∧ (lenF l = 0 → a' = none ∧ c' = 0) := by
  obtain ⟨i0, hi, hz0, hz1, hz2⟩ := info_parts Tryz.info26
  have HT : Hid (TmAt w x a c l) := hT
  have IH : Hid (∀ j, j < k → CloneOk j) := ih
  have hmax : maxLen = 9223372036854775807 := rfl
  have hn1 := hT.sizes.len
  have hn2 := hT.sizes.cap
  have hfew := hT.sizes.few
  clear hT ih
  by_cases h0 : lenF l = 0
  · have hl := len_nil h0
    subst hl
    go_enter Tryz.func36, Tryz.ntmps36
    go_wp2
    go_ret
    exact ⟨none, 0, rfl, ⟨⟨HT.out.sizes.name, by simp [lenF], by simp, by simp [lenF]⟩, .inl rfl⟩, Below.refl _ _, fun _ => ⟨rfl, rfl⟩⟩
  · obtain ⟨bb, oo, rfl, hkk⟩ := HT.out.args.get (by omega)
    have HKK : Hid (KidsAt w l bb oo) := hkk
    clear hkk
    have hne : ((lenF l : Int) == 0) = false := by simp; omega
    go_enter Tryz.func36, Tryz.ntmps36
    go_wp2_with (at_make; refine wpList_make_full _ rfl _ _ 24 rfl w.heap.size 26 i0 (.agg #[.string ⟨#[]⟩, .int .i64 0, .slice none 0 0]) 3 Tryz.underlying24 hi hz0 hz1 .i64 .i64 _ _ (lenF l) rfl rfl rfl rfl (by rw [hz2]; omega) (by omega) (Nat.le_refl _) ?_; intro w0 hown0 hgrow0)
    have F0 : Fill w (lenF l) w0 [] := by
      refine ⟨(Below.refl _ _).grown hgrow0 (Nat.le_refl _) (fun k e => by cases e), ?_, trivial⟩
      rcases hown0.2 with ⟨hv, _⟩ | ⟨g', cap', cur, hv, _, hh, _, _, hcs, _⟩
      · cases hv
      · cases hv
        exact ⟨cur, hh, hcs, fun i u hu => by simp [kvCells] at hu⟩
    clear hown0 hgrow0
    go_loopw [4, 5, 14] (fun _ _ i wr => ∃ (j : Nat) (ks : List Kv), j ≤ lenF l ∧ i = .int .i64 j ∧ ks.length = j ∧ Fill w (lenF l) wr ks ∧ ks.map (fun k => (k.x, k.l)) = (kidsL l).take j) (fun _ _ i _ => lenF l - (intOf i).toNat)
    case atStart => exact ⟨0, [], Nat.zero_le _, rfl, rfl, F0, by simp⟩
    case round =>
      obtain ⟨j, ks, hj, rfl, hkl, hF, hks⟩ := hrel
      have FR : Hid (Fill w (lenF l) wr ks) := hF
      have HKS : Hid (ks.map (fun k => (k.x, k.l)) = (kidsL l).take j) := hks
      clear hks F0
      by_cases hlt : j < lenF l
      · obtain ⟨y, a1, c1, l1, kd⟩ := HKK.out.kid (k := j) hlt
        have kd' := kd.below hF.low
        have p0 := kd'.name; have p1 := kd'.sym; have p2 := kd'.list
        have hb1 : Below wr.heap.size wr (wr.alloc (.cells #[.string y.1, .int .i64 y.2, .slice a1 (lenF l1) c1] 26)) := (Below.refl _ _).alloc (Nat.le_refl _) _
        have hC := IH.out (nodesF l1) (by have := kd.less; omega) y l1 a1 c1 _ (Nat.le_refl _) (kd'.at_.below hb1)
        have KD : Hid (Kid w l bb oo j y a1 c1 l1) := kd
        have HB1 : Hid (Below wr.heap.size wr (wr.alloc (.cells #[.string y.1, .int .i64 y.2, .slice a1 (lenF l1) c1] 26))) := hb1
        have hgl : w.heap.size < wr.heap.size := by obtain ⟨cur, h1, _⟩ := hF.row; exact (Array.getElem?_eq_some_iff.1 h1).1
        clear kd kd' hb1 hF
        go_wp2_with fail
        refine hC.mono ?_
        rintro e w2 ⟨a', c', rfl, ho2, hb2, hz2⟩
        clear hz2
        have HW2 : Hid (Below wr.heap.size wr w2) := HB1.out.trans (hb2.mono HB1.out.size)
        have HO2 : Hid (SepTm w2 (fun q => wr.heap.size ≤ q) y a' c' l1) := ho2.mono (fun q hq => by have := HB1.out.size; simp at hq; omega)
        have F2 : Fill w (lenF l) w2 ks := by
          obtain ⟨cur, h1, h2, h3⟩ := FR.out.row
          exact ⟨FR.out.low.trans (HW2.out.mono FR.out.low.size), ⟨cur, (HW2.out.block _ hgl).trans h1, h2, h3⟩, (FR.out.own.keep (fun q hq hlt => HW2.out.block q hlt)).mono (fun q hq => ⟨hq.1, Nat.lt_of_lt_of_le hq.2 HW2.out.size⟩)⟩
        obtain ⟨u0, v0⟩ := F2.cell (i := j * 3) (by omega)
        obtain ⟨u1, v1⟩ := F2.cell (i := j * 3 + 1) (by omega)
        obtain ⟨u2, v2⟩ := F2.cell (i := j * 3 + 2) (by omega)
        have f0 := F2.frozen (j * 3)
        have f1 := F2.frozen (j * 3 + 1)
        have f2 := F2.frozen (j * 3 + 2)
        clear hC ho2 hb2 F2 p0 p1 p2
        go_wp2
        go_roundw
        case rel =>
          obtain ⟨B1, O1, sp⟩ := KD.out.split
          have hst := FR.out.step (kv := ⟨y, l1, a', c'⟩) HW2.out HO2.out (by omega)
          rw [hkl] at hst
          exact ⟨j + 1, ks ++ [⟨y, l1, a', c'⟩], by omega, by go_num, by simp [hkl], hst, by rw [kids_take sp, ← HKS.out]; simp⟩
        case measure => simp [intOf]; omega
      · have e1 : j = lenF l := by omega
        go_wp2
        go_ret
        refine ⟨_, lenF l, rfl, FR.out.done (by rw [HKS.out, e1, ← kids_len, List.take_length]) HT.out.sizes.name (by omega) hfew, FR.out.low, fun e => absurd e h0⟩

set_option maxRecDepth 100000 in
set_option maxHeartbeats 2000000 in
theorem clone_all : ∀ k, CloneOk k := by
  intro k
  induction k using Nat.strongRecOn with
  | _ k ih =>
    intro x l a c w hk hT
    have HT : Hid (TmAt w x a c l) := hT
    obtain ⟨W0, hW0⟩ : ∃ W0, (w.alloc (.cells #[.string x.1, .int .i64 x.2, .slice a (lenF l) c] 26)).alloc (.cells #[.string ⟨#[]⟩, .int .i64 0, .slice none 0 0] 26) = W0 := ⟨_, rfl⟩
    have hb0 : Below w.heap.size w W0 := by rw [← hW0]; exact ((Below.refl _ w).alloc (Nat.le_refl _) _).alloc (by simp) _
    have b1 : XBox W0 w.heap.size x (.slice a (lenF l) c) := by rw [← hW0]; exact (Below.heap_alloc _ _ _ (by simp)).trans (World.alloc_heap_new w _)
    have b2 : XBox W0 (w.heap.size + 1) (⟨#[]⟩, 0) (.slice none 0 0) := by
      have := World.alloc_heap_new (w.alloc (.cells #[.string x.1, .int .i64 x.2, .slice a (lenF l) c] 26)) (.cells #[.string ⟨#[]⟩, .int .i64 0, .slice none 0 0] 26)
      rw [World.size_alloc] at this
      rw [← hW0]; exact this
    have hsz : W0.heap.size = w.heap.size + 2 := by rw [← hW0]; simp
    have hC := cloneList_any k ih x l a c W0 hk (hT.below hb0)
    clear hT ih
    have z2 := b1.c2
    go_enter Tryz.func23, Tryz.ntmps23
    go_wp2_with fail
    clear hW0 z2
    refine hC.mono ?_
    rintro e w2 ⟨a', c', rfl, ho2, hb2, hzz⟩
    have HZ : Hid (lenF l = 0 → a' = none ∧ c' = 0) := hzz
    clear hzz
    have B1 : XBox w2 w.heap.size x (.slice a (lenF l) c) := b1.below hb2
    have B2 : XBox w2 (w.heap.size + 1) (⟨#[]⟩, 0) (.slice none 0 0) := b2.below hb2
    have c2 := B1.c2
    have f2 := B1.f (k := 2)
    have X1 := B1.set (.slice a' (lenF l) c')
    have x0 := X1.c0; have x1 := X1.c1; have x2 := X1.c2
    have R1 := B2.other (p := ⟨w.heap.size, 2, none⟩) (by show w.heap.size + 1 ≠ w.heap.size; omega) (.slice a' (lenF l) c')
    have r0 := R1.c0; have r1 := R1.c1; have r2 := R1.c2
    have g0 := R1.f (k := 0); have g1 := R1.f (k := 1); have g2 := R1.f (k := 2)
    have HR1 : Hid (XBox (w2.setCell ⟨w.heap.size, 2, none⟩ (.slice a' (lenF l) c')) (w.heap.size + 1) (⟨#[]⟩, 0) (.slice none 0 0)) := R1
    have HO2 : Hid (SepTm w2 (fun k => W0.heap.size ≤ k) x a' c' l) := ho2
    have HB2 : Hid (Below w.heap.size w w2) := hb0.trans (hb2.mono hb0.size)
    have HSZ : Hid (W0.heap.size = w.heap.size + 2) := hsz
    clear hC ho2 hb2 B1 B2 b1 b2 X1 R1 hb0 hsz
    go_wp2
    refine bodyPost_ret (results_cell_row rfl _ _ (w.heap.size + 1) 26 #[.string x.1, .int .i64 x.2, .slice a' (lenF l) c'] (0, 0) _ rfl (HR1.out.all (x := x) _) Tryz.underlying26 rfl Tryz.size26) rfl ?_
    refine ⟨a', c', rfl, ?_, ?_, HZ.out⟩
    · refine (HO2.out.keep (fun q hq _ => ?_)).mono (fun q hq => by have := HSZ.out; omega)
      have := HSZ.out
      exact (sets_far (by omega) _ _ _).trans (Below.heap_setCell w2 _ _ q (by show q ≠ w.heap.size; omega))
    · exact sets_below (HB2.out.setCell (p := ⟨w.heap.size, 2, none⟩) (Nat.le_refl _) _) (by omega) _ _ _

theorem clone_any (x : ByteArray × Int) (l : Fo) (a : Option Addr) (c : Nat) (w : World) (hT : TmAt w x a c l) :
    Calls Tryz.prog 23 #[.agg #[.string x.1, .int .i64 x.2, .slice a (lenF l) c]] w fun e w' => ∃ a' c', e = .returned (.agg #[.string x.1, .int .i64 x.2, .slice a' (lenF l) c']) ∧ SepTm w' (fun k => w.heap.size ≤ k) x a' c' l ∧ Below w.heap.size w w' ∧ (lenF l = 0 → a' = none ∧ c' = 0) :=
  clone_all _ x l a c w (Nat.le_refl _) hT
end Go.Proofs.YtokbgbbkopmngaaGreat
