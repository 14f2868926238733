import Derived.Test.YtgcnjpiiofjljaaGreatDoorTSep
import Derived.Deep.RegionLaw
import Derived.Deep.DeepCutAuto
import Derived.BigQuiet
import Derived.Test.YtgcnjpiiofjljaaGreatDoorSNm
import Derived.Test.YtgcnjpiiofjljaaGreatDoorPKind
import Derived.Test.YtgcnjpiiofjljaaGreatDoorTRClone
import Derived.Laws.ResultCell
import Derived.Test.YtgcnjpiiofjljaaGreatDoorKRnU
/- What Clone of package terms makes: the term in new memory. -/
namespace Go.Proofs.YtgcnjpiiofjljaaGreatDoor
open Go.RowKit Go.Deep

def CloneOk (k : Nat) : Prop := ∀ (x : ByteArray × Int) (l : Fo) (a : Option Addr) (c : Nat) (w : World), nodesF l ≤ k → TmAt w x a c l →
  Calls Tryz.prog 58 #[.agg #[.string x.1, .int .i64 x.2, .slice a (lenF l) c]] w fun e w' => ∃ a' c', e = .returned (.agg #[.string x.1, .int .i64 x.2, .slice a' (lenF l) c']) ∧ SepTm w' (fun k => w.heap.size ≤ k) x a' c' l ∧ Below w.heap.size w w' ∧ (lenF l = 0 → a' = none ∧ c' = 0)

/-- A fresh row, some of whose places are filled. -/
structure Fill (w : World) (n : Nat) (W : World) (ks : List Kv) : Prop where
  low : Below w.heap.size w W
  row : ∃ cur, W.heap[w.heap.size]? = some (Obj.cells cur 27 (0, 0)) ∧ cur.size = n * 3 ∧ ∀ (i : Nat) (u : Value), (kvCells ks)[i]? = some u → cur[i]? = some u
  own : SepL W ks (fun q => w.heap.size < q ∧ q < W.heap.size)
theorem Fill.cell {w : World} {n : Nat} {W : World} {ks : List Kv} (h : Fill w n W ks) {i : Nat} (hi : i < n * 3) : ∃ v, W.cell? ⟨w.heap.size, i, none⟩ = some v := by
  obtain ⟨cur, h1, h2, _⟩ := h.row
  exact ⟨cur[i]'(by omega), by rw [cell_of_row W w.heap.size i cur 27 (0, 0) h1]; simp [show i < cur.size by omega]⟩
theorem Fill.frozen {w : World} {n : Nat} {W : World} {ks : List Kv} (h : Fill w n W ks) (i : Nat) : W.frozen? ⟨w.heap.size, i, none⟩ = false := by
  obtain ⟨cur, h1, _⟩ := h.row
  simp [World.frozen?, h1]
/-- What the callee has made is stored at its place. -/
theorem Fill.step {w wr w1 : World} {n : Nat} {ks : List Kv} {kv : Kv} (h : Fill w n wr ks) (hb : Below wr.heap.size wr w1) (hk : SepTm w1 (fun q => wr.heap.size ≤ q) kv.x kv.a kv.c kv.l) (hlt : ks.length < n) :
    Fill w n (((w1.setCell ⟨w.heap.size, ks.length * 3, none⟩ (.string kv.x.1)).setCell ⟨w.heap.size, ks.length * 3 + 1, none⟩ (.int .i64 kv.x.2)).setCell ⟨w.heap.size, ks.length * 3 + 2, none⟩ (.slice kv.a (lenF kv.l) kv.c)) (ks ++ [kv]) := by
  obtain ⟨cur, h1, h2, h3⟩ := h.row
  have hglt : w.heap.size < wr.heap.size := (Array.getElem?_eq_some_iff.1 h1).1
  have h1' : w1.heap[w.heap.size]? = some (Obj.cells cur 27 (0, 0)) := (hb.block _ hglt).trans h1
  have far : ∀ q, w.heap.size < q → (((w1.setCell ⟨w.heap.size, ks.length * 3, none⟩ (.string kv.x.1)).setCell ⟨w.heap.size, ks.length * 3 + 1, none⟩ (.int .i64 kv.x.2)).setCell ⟨w.heap.size, ks.length * 3 + 2, none⟩ (.slice kv.a (lenF kv.l) kv.c)).heap[q]? = w1.heap[q]? := fun q hq => by
    rw [Below.heap_setCell _ _ _ q (by show q ≠ w.heap.size; omega), Below.heap_setCell _ _ _ q (by show q ≠ w.heap.size; omega), Below.heap_setCell _ _ _ q (by show q ≠ w.heap.size; omega)]
  refine ⟨?_, ⟨_, block_set (block_set (block_set h1' _) _) _, by simp [h2], ?_⟩, ?_⟩
  · exact (((h.low.trans (hb.mono h.low.size)).setCell (p := ⟨w.heap.size, ks.length * 3, none⟩) (Nat.le_refl _) _).setCell (p := ⟨w.heap.size, ks.length * 3 + 1, none⟩) (Nat.le_refl _) _).setCell (p := ⟨w.heap.size, ks.length * 3 + 2, none⟩) (Nat.le_refl _) _
  · intro i u hu
    rw [kvCells_snoc] at hu
    have hl := kvCells_len ks
    have hkl : kv.cells.length = 3 := rfl
    have hi : i < ks.length * 3 + 3 := by
      rcases Nat.lt_or_ge i (ks.length * 3 + 3) with h' | h'
      · exact h'
      · rw [List.getElem?_eq_none (by rw [List.length_append]; omega)] at hu; cases hu
    simp only [Array.getElem?_setIfInBounds, Array.size_setIfInBounds]
    by_cases hc : i < ks.length * 3
    · rw [List.getElem?_append_left (by omega)] at hu
      rw [if_neg (by omega), if_neg (by omega), if_neg (by omega)]
      exact h3 i u hu
    · rw [List.getElem?_append_right (by omega), hl] at hu
      have hcase : i = ks.length * 3 ∨ i = ks.length * 3 + 1 ∨ i = ks.length * 3 + 2 := by omega
      rcases hcase with e | e | e
      · subst e
        rw [if_neg (by omega), if_neg (by omega), if_pos rfl, if_pos (by omega)]
        simpa [Kv.cells] using hu
      · subst e
        rw [if_neg (by omega), if_pos rfl, if_pos (by omega)]
        rw [show ks.length * 3 + 1 - ks.length * 3 = 1 by omega] at hu
        simpa [Kv.cells] using hu
      · subst e
        rw [if_pos rfl, if_pos (by omega)]
        rw [show ks.length * 3 + 2 - ks.length * 3 = 2 by omega] at hu
        simpa [Kv.cells] using hu
  · have h5 : SepL w1 ks (fun q => w.heap.size < q ∧ q < wr.heap.size) := h.own.keep (fun q hq hlt => hb.block q hlt)
    have h6 := SepL.snoc hk.within (fun q hq => by intro h'; have := hq.2; have := h'.1; omega) h5
    have hsz : (((w1.setCell ⟨w.heap.size, ks.length * 3, none⟩ (.string kv.x.1)).setCell ⟨w.heap.size, ks.length * 3 + 1, none⟩ (.int .i64 kv.x.2)).setCell ⟨w.heap.size, ks.length * 3 + 2, none⟩ (.slice kv.a (lenF kv.l) kv.c)).heap.size = w1.heap.size := by simp
    rw [hsz]
    have hbs := hb.size
    refine (h6.keep (fun q hq _ => far q ?_)).mono (fun q hq => ?_)
    · rcases hq with hq | hq
      · exact hq.1
      · have := hq.1; omega
    · rcases hq with hq | hq
      · exact ⟨hq.1, by omega⟩
      · exact ⟨by have := hq.1; omega, hq.2⟩
theorem Fill.done {w W : World} {x : ByteArray × Int} {l : Fo} {ks : List Kv} (h : Fill w (lenF l) W ks) (hks : ks.map (fun k => (k.x, k.l)) = kidsL l) (hx : x.1.size ≤ maxLen) (hn : lenF l ≤ maxLen) (hf : lenF l * 48 ≤ 140737488351232) :
    SepTm W (fun q => w.heap.size ≤ q) x (some ⟨w.heap.size, 0, none⟩) (lenF l) l := by
  obtain ⟨cur, h1, h2, h3⟩ := h.row
  refine ⟨⟨hx, Nat.le_refl _, hn, hf⟩, .inr ⟨w.heap.size, cur, rfl, Nat.le_refl _, h1, ?_⟩⟩
  refine sepKids_of l ks _ 0 hks (fun j u hu => ?_) (h.own.mono (fun q hq => ⟨by have := hq.1; omega, by have := hq.1; omega⟩))
  rw [Nat.zero_add, cell_of_row W w.heap.size j cur 27 (0, 0) h1]
  exact h3 j u hu

set_option maxRecDepth 100000 in
set_option maxHeartbeats 2000000 in
theorem cloneList_any (k : Nat) (ih : ∀ j, j < k → CloneOk j) (x : ByteArray × Int) (l : Fo) (a : Option Addr) (c : Nat) (w : World) (hk : nodesF l ≤ k) (hT : TmAt w x a c l) :
    Calls Tryz.prog 79 #[.slice a (lenF l) c] w fun e w' => ∃ a' c', e = .returned (.slice a' (lenF l) c') ∧ SepTm w' (fun k => w.heap.size ≤ k) x a' c' l ∧ Below w.heap.size w w' ∧ (lenF l = 0 → a' = none ∧ c' = 0) := by
  obtain ⟨i0, hi, hz0, hz1, hz2⟩ := info_parts Tryz.info27
  have HT : Hid (TmAt w x a c l) := hT
  have IH : Hid (∀ j, j < k → CloneOk j) := ih
  have hmax : maxLen = 9223372036854775807 := rfl
  have hn1 := hT.sizes.len
  have hn2 := hT.sizes.cap
  have hfew := hT.sizes.few
  clear hT ih
  by_cases h0 : lenF l = 0
  · have hl := len_nil h0
    subst hl
    go_enter Tryz.func79, Tryz.ntmps79
    go_wp2
    go_ret
    exact ⟨none, 0, rfl, ⟨⟨HT.out.sizes.name, by simp [lenF], by simp, by simp [lenF]⟩, .inl rfl⟩, Below.refl _ _, fun _ => ⟨rfl, rfl⟩⟩
  · obtain ⟨bb, oo, rfl, hkk⟩ := HT.out.args.get (by omega)
    have HKK : Hid (KidsAt w l bb oo) := hkk
    clear hkk
    have hne : ((lenF l : Int) == 0) = false := by simp; omega
    go_enter Tryz.func79, Tryz.ntmps79
    go_wp2_with (at_make; refine wpList_make_full _ rfl _ _ 25 rfl w.heap.size 27 i0 (.agg #[.string ⟨#[]⟩, .int .i64 0, .slice none 0 0]) 3 Tryz.underlying25 hi hz0 hz1 .i64 .i64 _ _ (lenF l) rfl rfl rfl rfl (by rw [hz2]; omega) (by omega) (Nat.le_refl _) ?_; intro w0 hown0 hgrow0)
    have F0 : Fill w (lenF l) w0 [] := by
      refine ⟨(Below.refl _ _).grown hgrow0 (Nat.le_refl _) (fun k e => by cases e), ?_, trivial⟩
      rcases hown0.2 with ⟨hv, _⟩ | ⟨g', cap', cur, hv, _, hh, _, _, hcs, _⟩
      · cases hv
      · cases hv
        exact ⟨cur, hh, hcs, fun i u hu => by simp [kvCells] at hu⟩
    clear hown0 hgrow0
    go_loopw [4, 5, 14] (fun _ _ i wr => ∃ (j : Nat) (ks : List Kv), j ≤ lenF l ∧ i = .int .i64 j ∧ ks.length = j ∧ Fill w (lenF l) wr ks ∧ ks.map (fun k => (k.x, k.l)) = (kidsL l).take j) (fun _ _ i _ => lenF l - (intOf i).toNat)
    case atStart => exact ⟨0, [], Nat.zero_le _, rfl, rfl, F0, by simp⟩
    case round =>
      obtain ⟨j, ks, hj, rfl, hkl, hF, hks⟩ := hrel
      have FR : Hid (Fill w (lenF l) wr ks) := hF
      have HKS : Hid (ks.map (fun k => (k.x, k.l)) = (kidsL l).take j) := hks
      clear hks F0
      by_cases hlt : j < lenF l
      · obtain ⟨y, a1, c1, l1, kd⟩ := HKK.out.kid (k := j) hlt
        have kd' := kd.below hF.low
        have p0 := kd'.name; have p1 := kd'.sym; have p2 := kd'.list
        have hb1 : Below wr.heap.size wr (wr.alloc (.cells #[.string y.1, .int .i64 y.2, .slice a1 (lenF l1) c1] 27)) := (Below.refl _ _).alloc (Nat.le_refl _) _
        have hC := IH.out (nodesF l1) (by have := kd.less; omega) y l1 a1 c1 _ (Nat.le_refl _) (kd'.at_.below hb1)
        have KD : Hid (Kid w l bb oo j y a1 c1 l1) := kd
        have HB1 : Hid (Below wr.heap.size wr (wr.alloc (.cells #[.string y.1, .int .i64 y.2, .slice a1 (lenF l1) c1] 27))) := hb1
        have hgl : w.heap.size < wr.heap.size := by obtain ⟨cur, h1, _⟩ := hF.row; exact (Array.getElem?_eq_some_iff.1 h1).1
        clear kd kd' hb1 hF
        go_wp2_with fail
        refine hC.mono ?_
        rintro e w2 ⟨a', c', rfl, ho2, hb2, hz2⟩
        clear hz2
        have HW2 : Hid (Below wr.heap.size wr w2) := HB1.out.trans (hb2.mono HB1.out.size)
        have HO2 : Hid (SepTm w2 (fun q => wr.heap.size ≤ q) y a' c' l1) := ho2.mono (fun q hq => by have := HB1.out.size; simp at hq; omega)
        have F2 : Fill w (lenF l) w2 ks := by
          obtain ⟨cur, h1, h2, h3⟩ := FR.out.row
          exact ⟨FR.out.low.trans (HW2.out.mono FR.out.low.size), ⟨cur, (HW2.out.block _ hgl).trans h1, h2, h3⟩, (FR.out.own.keep (fun q hq hlt => HW2.out.block q hlt)).mono (fun q hq => ⟨hq.1, Nat.lt_of_lt_of_le hq.2 HW2.out.size⟩)⟩
        obtain ⟨u0, v0⟩ := F2.cell (i := j * 3) (by omega)
        obtain ⟨u1, v1⟩ := F2.cell (i := j * 3 + 1) (by omega)
        obtain ⟨u2, v2⟩ := F2.cell (i := j * 3 + 2) (by omega)
        have f0 := F2.frozen (j * 3)
        have f1 := F2.frozen (j * 3 + 1)
        have f2 := F2.frozen (j * 3 + 2)
        clear hC ho2 hb2 F2 p0 p1 p2
        go_wp2
        go_roundw
        case rel =>
          obtain ⟨B1, O1, sp⟩ := KD.out.split
          have hst := FR.out.step (kv := ⟨y, l1, a', c'⟩) HW2.out HO2.out (by omega)
          rw [hkl] at hst
          exact ⟨j + 1, ks ++ [⟨y, l1, a', c'⟩], by omega, by go_num, by simp [hkl], hst, by rw [kids_take sp, ← HKS.out]; simp⟩
        case measure => simp [intOf]; omega
      · have e1 : j = lenF l := by omega
        go_wp2
        go_ret
        refine ⟨_, lenF l, rfl, FR.out.done (by rw [HKS.out, e1, ← kids_len, List.take_length]) HT.out.sizes.name (by omega) hfew, FR.out.low, fun e => absurd e h0⟩

set_option maxRecDepth 100000 in
set_option maxHeartbeats 2000000 in
theorem clone_all : ∀ k, CloneOk k := by
  intro k
  induction k using Nat.strongRecOn with
  | _ k ih =>
    intro x l a c w hk hT
    have HT : Hid (TmAt w x a c l) := hT
    obtain ⟨W0, hW0⟩ : ∃ W0, (w.alloc (.cells #[.string x.1, .int .i64 x.2, .slice a (lenF l) c] 27)).alloc (.cells #[.string ⟨#[]⟩, .int .i64 0, .slice none 0 0] 27) = W0 := ⟨_, rfl⟩
    have hb0 : Below w.heap.size w W0 := by rw [← hW0]; exact ((Below.refl _ w).alloc (Nat.le_refl _) _).alloc (by simp) _
    have b1 : XBox W0 w.heap.size x (.slice a (lenF l) c) := by rw [← hW0]; exact (Below.heap_alloc _ _ _ (by simp)).trans (World.alloc_heap_new w _)
    have b2 : XBox W0 (w.heap.size + 1) (⟨#[]⟩, 0) (.slice none 0 0) := by
      have := World.alloc_heap_new (w.alloc (.cells #[.string x.1, .int .i64 x.2, .slice a (lenF l) c] 27)) (.cells #[.string ⟨#[]⟩, .int .i64 0, .slice none 0 0] 27)
      rw [World.size_alloc] at this
      rw [← hW0]; exact this
    have hsz : W0.heap.size = w.heap.size + 2 := by rw [← hW0]; simp
    have hC := cloneList_any k ih x l a c W0 hk (hT.below hb0)
    clear hT ih
    have z2 := b1.c2
    go_enter Tryz.func58, Tryz.ntmps58
    go_wp2_with fail
    clear hW0 z2
    refine hC.mono ?_
    rintro e w2 ⟨a', c', rfl, ho2, hb2, hzz⟩
    have HZ : Hid (lenF l = 0 → a' = none ∧ c' = 0) := hzz
    clear hzz
    have B1 : XBox w2 w.heap.size x (.slice a (lenF l) c) := b1.below hb2
    have B2 : XBox w2 (w.heap.size + 1) (⟨#[]⟩, 0) (.slice none 0 0) := b2.below hb2
    have c2 := B1.c2
    have f2 := B1.f (k := 2)
    have X1 := B1.set (.slice a' (lenF l) c')
    have x0 := X1.c0; have x1 := X1.c1; have x2 := X1.c2
    have R1 := B2.other (p := ⟨w.heap.size, 2, none⟩) (by show w.heap.size + 1 ≠ w.heap.size; omega) (.slice a' (lenF l) c')
    have r0 := R1.c0; have r1 := R1.c1; have r2 := R1.c2
    have g0 := R1.f (k := 0); have g1 := R1.f (k := 1); have g2 := R1.f (k := 2)
    have HR1 : Hid (XBox (w2.setCell ⟨w.heap.size, 2, none⟩ (.slice a' (lenF l) c')) (w.heap.size + 1) (⟨#[]⟩, 0) (.slice none 0 0)) := R1
    have HO2 : Hid (SepTm w2 (fun k => W0.heap.size ≤ k) x a' c' l) := ho2
    have HB2 : Hid (Below w.heap.size w w2) := hb0.trans (hb2.mono hb0.size)
    have HSZ : Hid (W0.heap.size = w.heap.size + 2) := hsz
    clear hC ho2 hb2 B1 B2 b1 b2 X1 R1 hb0 hsz
    go_wp2
    refine bodyPost_ret (results_cell_row rfl _ _ (w.heap.size + 1) 27 #[.string x.1, .int .i64 x.2, .slice a' (lenF l) c'] (0, 0) _ rfl (HR1.out.all (x := x) _) Tryz.underlying27 rfl Tryz.size27) rfl ?_
    refine ⟨a', c', rfl, ?_, ?_, HZ.out⟩
    · refine (HO2.out.keep (fun q hq _ => ?_)).mono (fun q hq => by have := HSZ.out; omega)
      have := HSZ.out
      exact (sets_far (by omega) _ _ _).trans (Below.heap_setCell w2 _ _ q (by show q ≠ w.heap.size; omega))
    · exact sets_below (HB2.out.setCell (p := ⟨w.heap.size, 2, none⟩) (Nat.le_refl _) _) (by omega) _ _ _

theorem clone_any (x : ByteArray × Int) (l : Fo) (a : Option Addr) (c : Nat) (w : World) (hT : TmAt w x a c l) :
    Calls Tryz.prog 58 #[.agg #[.string x.1, .int .i64 x.2, .slice a (lenF l) c]] w fun e w' => ∃ a' c', e = .returned (.agg #[.string x.1, .int .i64 x.2, .slice a' (lenF l) c']) ∧ SepTm w' (fun k => w.heap.size ≤ k) x a' c' l ∧ Below w.heap.size w w' ∧ (lenF l = 0 → a' = none ∧ c' = 0) :=
  clone_all _ x l a c w (Nat.le_refl _) hT
end Go.Proofs.YtgcnjpiiofjljaaGreatDoor
/- Lists of terms in memory no two of which share a block; terms whose own list may still be written. -/
namespace Go.Proofs.YtgcnjpiiofjljaaGreatDoor
open Go.RowKit Go.Deep

abbrev Bl := Nat → Prop
/-- Of these terms each has what E says, with blocks of its own among A. -/
def GL (E : World → Bl → Kv → Prop) (w : World) : List Kv → Bl → Prop
  | [], _ => True
  | k :: r, A => ∃ A1 A2 : Bl, (∀ q, A1 q → A q) ∧ (∀ q, A2 q → A q ∧ ¬ A1 q) ∧ E w A1 k ∧ GL E w r A2
structure Elem (E : World → Bl → Kv → Prop) : Prop where
  mono : ∀ {w : World} {A A' : Bl} {k : Kv}, (∀ q, A q → A' q) → E w A k → E w A' k
  keep : ∀ {w w' : World} {A : Bl} {k : Kv}, (∀ q, A q → q < w.heap.size → w'.heap[q]? = w.heap[q]?) → E w A k → E w' A k
  within : ∀ {w : World} {A : Bl} {k : Kv}, E w A k → E w (fun q => A q ∧ q < w.heap.size) k
variable {E : World → Bl → Kv → Prop}
theorem GL.mono {w : World} : ∀ {ks : List Kv} {A A' : Bl}, (∀ k, A k → A' k) → GL E w ks A → GL E w ks A'
  | [], _, _, _, _ => trivial
  | _ :: _, _, _, hA, ⟨A1, A2, h1, h2, h3, h4⟩ => ⟨A1, A2, fun k hk => hA k (h1 k hk), fun k hk => ⟨hA k (h2 k hk).1, (h2 k hk).2⟩, h3, h4⟩
theorem GL.keep (hE : Elem E) {w w' : World} : ∀ {ks : List Kv} {A : Bl}, (∀ k, A k → k < w.heap.size → w'.heap[k]? = w.heap[k]?) → GL E w ks A → GL E w' ks A
  | [], _, _, _ => trivial
  | _ :: _, _, hp, ⟨A1, A2, h1, h2, h3, h4⟩ => ⟨A1, A2, h1, h2, hE.keep (fun k hk hlt => hp k (h1 k hk) hlt) h3, GL.keep hE (fun k hk hlt => hp k (h2 k hk).1 hlt) h4⟩
theorem GL.within (hE : Elem E) {w : World} : ∀ {ks : List Kv} {A : Bl}, GL E w ks A → GL E w ks (fun q => A q ∧ q < w.heap.size)
  | [], _, _ => trivial
  | _ :: _, _, ⟨A1, A2, h1, h2, h3, h4⟩ => ⟨fun q => A1 q ∧ q < w.heap.size, fun q => A2 q ∧ q < w.heap.size, fun q hq => ⟨h1 q hq.1, hq.2⟩, fun q hq => ⟨⟨(h2 q hq.1).1, hq.2⟩, fun h => (h2 q hq.1).2 h.1⟩, hE.within h3, GL.within hE h4⟩
theorem GL.weak {E' : World → Bl → Kv → Prop} {w : World} (h : ∀ A k, E w A k → E' w A k) : ∀ {ks : List Kv} {A : Bl}, GL E w ks A → GL E' w ks A
  | [], _, _ => trivial
  | _ :: _, _, ⟨A1, A2, h1, h2, h3, h4⟩ => ⟨A1, A2, h1, h2, h A1 _ h3, GL.weak h h4⟩
theorem GL.perm {w : World} {ks ms : List Kv} (hp : List.Perm ks ms) : ∀ {A : Bl}, GL E w ks A → GL E w ms A := by
  induction hp with
  | nil => exact fun h => h
  | cons k _ ih => exact fun ⟨A1, A2, h1, h2, h3, h4⟩ => ⟨A1, A2, h1, h2, h3, ih h4⟩
  | swap a b l =>
    rintro A ⟨A1, A2, h1, h2, h3, B1, B2, k1, k2, k3, k4⟩
    refine ⟨B1, fun q => A1 q ∨ B2 q, fun q hq => (h2 q (k1 q hq)).1, fun q hq => ?_, k3, A1, B2, fun q hq => .inl hq, fun q hq => ⟨.inr hq, ?_⟩, h3, k4⟩
    · rcases hq with hq | hq
      · exact ⟨h1 q hq, fun hb => (h2 q (k1 q hb)).2 hq⟩
      · exact ⟨(h2 q (k2 q hq).1).1, (k2 q hq).2⟩
    · exact (h2 q (k2 q hq).1).2
  | trans _ _ ih1 ih2 => exact fun h => ih2 (ih1 h)
theorem GL.append {w : World} {B : Bl} {ms : List Kv} (hm : GL E w ms B) : ∀ {ks : List Kv} {A : Bl}, (∀ q, A q → ¬ B q) → GL E w ks A → GL E w (ks ++ ms) (fun q => A q ∨ B q)
  | [], _, _, _ => hm.mono fun _ hq => .inr hq
  | k :: r, A, hd, ⟨A1, A2, h1, h2, h3, h4⟩ => ⟨A1, fun q => A2 q ∨ B q, fun q hq => .inl (h1 q hq), fun q hq => by
      rcases hq with hq | hq
      · exact ⟨.inl (h2 q hq).1, (h2 q hq).2⟩
      · exact ⟨.inr hq, fun h => hd q (h1 q h) hq⟩, h3, GL.append hm (fun q hq => hd q (h2 q hq).1) h4⟩
theorem GL.one {w : World} {k : Kv} {A : Bl} (h : E w A k) : GL E w [k] A := ⟨A, fun _ => False, fun _ hq => hq, fun _ hq => hq.elim, h, trivial⟩
theorem GL.cons {w : World} {k : Kv} {ks : List Kv} {A B : Bl} (h : E w A k) (hk : GL E w ks B) (hd : ∀ q, A q → ¬ B q) : GL E w (k :: ks) (fun q => A q ∨ B q) := GL.append hk hd (GL.one h)
theorem GL.snoc {w : World} {k : Kv} {ks : List Kv} {A B : Bl} (hk : GL E w ks A) (h : E w B k) (hd : ∀ q, A q → ¬ B q) : GL E w (ks ++ [k]) (fun q => A q ∨ B q) := GL.append (GL.one h) hd hk
theorem GL.right {w : World} : ∀ {ks ms : List Kv} {A : Bl}, GL E w (ks ++ ms) A → GL E w ms A
  | [], _, _, h => h
  | _ :: _, _, _, ⟨_, _, _, h2, _, h4⟩ => (GL.right h4).mono fun q hq => (h2 q hq).1
theorem GL.left {w : World} {ks ms : List Kv} {A : Bl} (h : GL E w (ks ++ ms) A) : GL E w ks A := GL.right (h.perm List.perm_append_comm)
theorem GL.mem {w : World} {ks : List Kv} {A : Bl} {k : Kv} (h : GL E w ks A) (hk : k ∈ ks) : ∃ A1 : Bl, (∀ q, A1 q → A q) ∧ E w A1 k := by
  obtain ⟨l1, l2, rfl⟩ := List.append_of_mem hk
  obtain ⟨A1, A2, h1, _, h3, _⟩ := h.right
  exact ⟨A1, h1, h3⟩
theorem GL.filter {w : World} (p : Kv → Bool) : ∀ {ks : List Kv} {A : Bl}, GL E w ks A → GL E w (ks.filter p) A
  | [], _, _ => trivial
  | k :: r, A, ⟨A1, A2, h1, h2, h3, h4⟩ => by
    rw [List.filter_cons]
    have h5 := GL.filter p h4
    split
    · exact ⟨A1, A2, h1, h2, h3, h5⟩
    · exact h5.mono fun q hq => (h2 q hq).1

/-! ### terms, and terms whose own list may be written -/
def SepE (w : World) (A : Bl) (k : Kv) : Prop := SepTm w A k.x k.a k.c k.l
def RowK (w : World) (A : Bl) (k : Kv) : Prop := (k.a = none ∧ k.c = 0 ∧ lenF k.l = 0) ∨ ∃ g cur, k.a = some ⟨g, 0, none⟩ ∧ A g ∧ w.heap[g]? = some (Obj.cells cur 27 (0, 0)) ∧ cur.size = k.c * 3
def LoosE (w : World) (A : Bl) (k : Kv) : Prop := SepE w A k ∧ (noName k.x.1 = true → RowK w A k)
theorem sepE : Elem SepE := ⟨fun h => SepTm.mono h, fun h => SepTm.keep h, SepTm.within⟩
theorem RowK.mono {w : World} {A A' : Bl} {k : Kv} (hA : ∀ q, A q → A' q) (h : RowK w A k) : RowK w A' k := by
  rcases h with h | ⟨g, cur, h1, h2, h3, h4⟩
  · exact .inl h
  · exact .inr ⟨g, cur, h1, hA g h2, h3, h4⟩
theorem RowK.keep {w w' : World} {A : Bl} {k : Kv} (hp : ∀ q, A q → q < w.heap.size → w'.heap[q]? = w.heap[q]?) (h : RowK w A k) : RowK w' A k := by
  rcases h with h | ⟨g, cur, h1, h2, h3, h4⟩
  · exact .inl h
  · exact .inr ⟨g, cur, h1, h2, (hp g h2 (Array.getElem?_eq_some_iff.1 h3).1).trans h3, h4⟩
theorem loosE : Elem LoosE :=
  ⟨fun hA h => ⟨sepE.mono hA h.1, fun e => (h.2 e).mono hA⟩, fun hp h => ⟨sepE.keep hp h.1, fun e => (h.2 e).keep hp⟩, fun h => ⟨sepE.within h.1, fun e => by
    rcases h.2 e with h' | ⟨g, cur, h1, h2, h3, h4⟩
    · exact .inl h'
    · exact .inr ⟨g, cur, h1, ⟨h2, (Array.getElem?_eq_some_iff.1 h3).1⟩, h3, h4⟩⟩⟩
theorem gl_sepL {w : World} : ∀ {ks : List Kv} {A : Bl}, GL SepE w ks A ↔ SepL w ks A
  | [], _ => Iff.rfl
  | k :: r, A => by
    simp only [GL, SepL]
    constructor
    · rintro ⟨A1, A2, h1, h2, h3, h4⟩
      exact ⟨A1, A2, h1, h2, h3, gl_sepL.1 h4⟩
    · rintro ⟨A1, A2, h1, h2, h3, h4⟩
      exact ⟨A1, A2, h1, h2, h3, gl_sepL.2 h4⟩
/-- What lies there, term by term. -/
theorem sepKids_list {w : World} {b : Nat} : ∀ {F : Fo} {A : Bl} {o : Nat}, SepKids w F A b o → ∃ ks : List Kv, ks.map Kv.tn = kidsL F ∧ (∀ j u, (kvCells ks)[j]? = some u → w.cell? ⟨b, o + j, none⟩ = some u) ∧ GL SepE w ks A
  | .nil, A, o, _ => ⟨[], rfl, fun j u hu => by simp [kvCells] at hu, trivial⟩
  | .node _ _ x l r, A, o, ⟨A1, A2, h1, h2, ⟨a, c, c0, c1, c2, hs, hl⟩, hr⟩ => by
    obtain ⟨ks, k1, k2, k3⟩ := sepKids_list hr
    refine ⟨⟨x, l, a, c⟩ :: ks, by simp [kidsL, Kv.tn, k1], fun j u hu => ?_, A1, A2, h1, h2, ⟨hs, hl⟩, k3⟩
    have e : kvCells (⟨x, l, a, c⟩ :: ks) = .string x.1 :: .int .i64 x.2 :: .slice a (lenF l) c :: kvCells ks := rfl
    rw [e] at hu
    match j, hu with
    | 0, hu => cases hu; exact c0
    | 1, hu => cases hu; exact c1
    | 2, hu => cases hu; exact c2
    | j + 3, hu => have := k2 j u (by simpa using hu); rw [show o + (j + 3) = o + 3 + j by omega]; exact this
theorem kvCells_get {ks : List Kv} {j : Nat} (h : j < ks.length * 3) : ∃ u, (kvCells ks)[j]? = some u := ⟨_, List.getElem?_eq_getElem (by rw [kvCells_len]; exact h)⟩
/-- A term whose list may be written: its row, and its terms. -/
theorem LoosE.row {w : World} {A : Bl} {k : Kv} (h : LoosE w A k) (hn : noName k.x.1 = true) : ∃ ks : List Kv, ks.map Kv.tn = kidsL k.l ∧ (∀ B, (∀ q, A q → B ≤ q) → w.ownsRow B 27 3 (.slice k.a (lenF k.l) k.c) (lenF k.l) (kvCells ks)) ∧
    GL SepE w ks (fun q => A q ∧ some q ≠ (Value.slice k.a (lenF k.l) k.c).ownBlock) ∧ ∀ g, (Value.slice k.a (lenF k.l) k.c).ownBlock = some g → A g := by
  obtain ⟨hs, hr⟩ := h
  rcases hr hn with ⟨h1, h2, h3⟩ | ⟨g, cur, h1, h2, h3, h4⟩
  · have e : kidsL k.l = [] := by rw [len_nil h3]; rfl
    refine ⟨[], by rw [e]; rfl, fun B _ => ⟨by simp [kvCells, h3], .inl ⟨by rw [h1, h2, h3], h3⟩⟩, trivial, fun g hg => ?_⟩
    rw [h1] at hg
    cases hg
  · have hcap := hs.sizes.cap
    have hlen := hs.sizes.len
    have main : ∃ ks : List Kv, ks.map Kv.tn = kidsL k.l ∧ (∀ j u, (kvCells ks)[j]? = some u → w.cell? ⟨g, 0 + j, none⟩ = some u) ∧ GL SepE w ks (fun q => A q ∧ q ≠ g) := by
      rcases hs.list with e | ⟨g', cur', e1, e2, e3, e4⟩
      · exact ⟨[], by rw [e]; rfl, fun j u hu => by simp [kvCells] at hu, trivial⟩
      · rw [h1] at e1
        cases e1
        exact sepKids_list e4
    obtain ⟨ks, k1, k2, k3⟩ := main
    have hkl : ks.length = lenF k.l := by have := congrArg List.length k1; rwa [List.length_map, kids_len] at this
    refine ⟨ks, k1, fun B hB => ⟨by rw [kvCells_len, hkl], .inr ⟨g, k.c, cur, by rw [h1], hB g h2, h3, hlen, hcap, h4, ?_⟩⟩, k3.mono (fun q hq => ⟨hq.1, by rw [h1]; intro e; cases e; exact hq.2 rfl⟩), fun g' hg' => ?_⟩
    · apply List.ext_getElem?
      intro j
      by_cases hj : j < lenF k.l * 3
      · obtain ⟨u, hu⟩ := kvCells_get (ks := ks) (j := j) (by rw [hkl]; exact hj)
        have hc := k2 j u hu
        rw [Nat.zero_add, cell_of_row w g j cur 27 (0, 0) h3] at hc
        rw [List.getElem?_take_of_lt hj, hu, ← hc]
        simp
      · rw [List.getElem?_eq_none (by rw [List.length_take]; omega), List.getElem?_eq_none (by rw [kvCells_len, hkl]; omega)]
    · rw [h1] at hg'
      cases hg'
      exact h2
/-- And back: a row that may be written, and terms beside it. -/
theorem loosE_of {w : World} {B : Nat} {A : Bl} {x : ByteArray × Int} {v : Value} {ks : List Kv} (hx : x.1.size ≤ maxLen) (hown : w.ownsRow B 27 3 v ks.length (kvCells ks)) (hg : ∀ g, v.ownBlock = some g → A g) (hks : GL SepE w ks (fun q => A q ∧ some q ≠ v.ownBlock)) (hfew : ks.length * 48 ≤ 140737488351232) :
    ∃ a c, v = .slice a ks.length c ∧ LoosE w A ⟨x, mkF (ks.map Kv.tn), a, c⟩ := by
  have hlm : lenF (mkF (ks.map Kv.tn)) = ks.length := by rw [len_mk, List.length_map]
  rcases hown.2 with ⟨h1, h2⟩ | ⟨g, cap, cur, h1, h2, h3, h4, h5, h6, h7⟩
  · have e : ks = [] := List.length_eq_zero_iff.1 h2
    subst e
    exact ⟨none, 0, h1, ⟨⟨hx, Nat.le_refl _, Nat.zero_le _, by simp [mkF, lenF]⟩, .inl rfl⟩, fun _ => .inl ⟨rfl, rfl, rfl⟩⟩
  · refine ⟨some ⟨g, 0, none⟩, cap, h1, ⟨⟨hx, by rw [hlm]; exact h4, h5, by rw [hlm]; exact hfew⟩, .inr ⟨g, cur, rfl, hg g (by rw [h1]; rfl), h3, ?_⟩⟩, fun _ => .inr ⟨g, cur, rfl, hg g (by rw [h1]; rfl), h3, h6⟩⟩
    refine sepKids_of _ ks _ 0 (by rw [kids_mk]; rfl) (fun j u hu => ?_) (gl_sepL.1 (hks.mono fun q hq => ⟨hq.1, fun e => hq.2 (by rw [e, h1]; rfl)⟩))
    rw [h1] at hown
    exact owns_at hown j u hu
theorem SepE.own {w : World} {A : Bl} {k : Kv} (h : SepE w A k) : OwnTm false A w k.x k.a k.c k.l := by
  have go : ∀ (F : Fo) (A : Bl) (b o : Nat), SepKids w F A b o → OwnKids false A w F b o := by
    intro F
    induction F with
    | nil => intro _ _ _ _; trivial
    | node _ _ x l r ihl ihr =>
      rintro A b o ⟨A1, A2, h1, h2, ⟨a, c, c0, c1, c2, hs, hl⟩, hr⟩
      refine ⟨⟨a, c, c0, c1, c2, hs, ?_⟩, (ihr A2 b (o + 3) hr).mono (fun q _ hq => (h2 q hq).1)⟩
      rcases hl with e | ⟨g, cur, e1, e2, e3, e4⟩
      · exact .inl ⟨e, rfl⟩
      · exact .inr ⟨g, cur, e1, h1 g e2, e3, (by intro e; cases e), (ihl _ g 0 e4).mono (fun q _ hq => h1 q hq.1)⟩
  refine ⟨h.sizes, ?_⟩
  rcases h.list with e | ⟨g, cur, e1, e2, e3, e4⟩
  · exact .inl ⟨e, rfl⟩
  · exact .inr ⟨g, cur, e1, e2, e3, (by intro e; cases e), (go _ _ g 0 e4).mono (fun q _ hq => hq.1)⟩
end Go.Proofs.YtgcnjpiiofjljaaGreatDoor
/- What lent of the statements answers: binds in new memory, with marks. -/
namespace Go.Proofs.YtgcnjpiiofjljaaGreatDoor
open Go.RowKit Go.Deep

theorem drew_below (w : World) : Below w.heap.size w w.drew := (Below.refl _ w).drew
theorem drew_size (w : World) : w.drew.heap.size = w.heap.size := rfl
set_option maxRecDepth 100000 in
set_option maxHeartbeats 4000000 in
theorem lentb_any (p : Option Addr) (cap : Nat) (bs : List Bn) (w : World) (hB : BindsAt w p bs.length bs) (hn : bs.length ≤ 1048575) :
    Calls Tryz.prog 6 #[.slice p bs.length cap] w fun e w' => ∃ g cap', e = .returned (.slice (some ⟨g, 0, none⟩) bs.length cap') ∧ LentB w' g cap' bs ∧ w.heap.size ≤ g ∧ Below w.heap.size w w' := by
  obtain ⟨i0, hi, hz0, hz1, hz2⟩ := info_parts Tryz.info42
  have HB := hid hB
  have hmax : maxLen = 9223372036854775807 := rfl
  clear hB
  go_enter Tryz.func6, Tryz.ntmps6
  go_wp2_with fail
  go_loopw [3, 4] (fun ov iv wr => ∃ (j : Nat) (v : Value) (ks : List Bk), j ≤ bs.length ∧ v = ov ∧ iv = .int .i64 j ∧ LstB true w.heap.size wr v ks ∧ ks.map bkBn = bs.take j ∧ Below w.heap.size w wr) (fun _ iv _ => bs.length - (intOf iv).toNat)
  case atStart => exact ⟨0, _, [], Nat.zero_le _, rfl, rfl, LstB.nil _ _ _, by simp, Below.refl _ _⟩
  case round =>
    obtain ⟨j, ov, ks, hj, rfl, rfl, hL, hks, hlow⟩ := hrel
    have HL := hid hL; have HK := hid hks; have HW := hid hlow
    have hkl : ks.length = j := by
      have := congrArg List.length hks
      rw [List.length_map, List.length_take] at this
      omega
    have HKL := hid hkl
    clear hL hks hlow hkl
    by_cases hlt : j < bs.length
    · obtain ⟨b1, o1, a1, c1, rfl, hbd⟩ := (HB.out.below HW.out).cells j hlt
      have htk : bs.take (j + 1) = bs.take j ++ [bs[j]] := List.take_succ_eq_append_getElem hlt
      obtain ⟨⟨vn, ⟨x, l⟩⟩, hy⟩ : ∃ y, bs[j] = y := ⟨_, rfl⟩
      rw [hy] at hbd htk
      have HTK := hid htk
      have HBD := hid hbd
      have p0 := hbd.var; have p1 := hbd.name; have p2 := hbd.sym; have p3 := hbd.list
      dsimp only at p0 p1 p2 p3
      have HC := hid (lent_any x l a1 c1 wr.drew (hbd.tm.below (drew_below wr)))
      have hr0 := (HL.out.row)
      rw [HKL.out] at hr0
      have HR0 := hid hr0
      have hwz := HW.out.size
      clear hbd hy htk hr0
      go_wp2_with fail
      go_region_law
        ((first
          | (refine step_append_lies _ (by rfl) (.tmp 11) (.tmp 24) 24 (by rfl) w.heap.size 42 i0 _ 4 64 Tryz.underlying24 hi hz0 hz1 hz2 rfl (by decide) ov j (bkAll ks) (by rfl) (owns_below (owns_below HR0.out HW1.out) ((Below.refl _ _).alloc (Nat.le_refl _) _)) ⟨w1.heap.size, 0, none⟩ 1 1 (bkCells (vn, ⟨x, l, a', c'⟩)) (by rfl) rfl (World.news_of_block (heap_alloc_new w1 _)) (bk_one _) (by decide) (by omega) (by omega) (by have := HW1.out.size; simp; omega) _ rfl ?_; intro g3 cap3 w3 hown3 hgrow3 hat3 hlt3; have HO3 := hid hown3; have HG3 := hid hgrow3; have HA3 := hid hat3; clear hown3 hgrow3 hat3)
          | (go_simp; go_wp2_with (go_at_call 20; refine HC.out.mono ?_; rintro e w1 ⟨a', c', rfl, ho1, hb1⟩; have HO1 : Hid (OwnTm true (fun k => wr.heap.size ≤ k) w1 x a' c' l) := ho1; have HW1 : Hid (Below wr.heap.size wr w1) := ((Below.refl _ wr).drew).trans hb1; have q0 := below_cell HW1.out _ _ p0; clear ho1 hb1))
          | fail))
      all_goals
        go_wp2_with fail
        go_roundw
        case rel =>
          have b2 := HW1.out.trans (((Below.refl _ w1).alloc (Nat.le_refl _) (.cells #[.string vn, .string x.1, .int .i64 x.2, .slice a' (lenF l) c'] 42)).mono HW1.out.size)
          refine ⟨j + 1, _, ks ++ [(vn, ⟨x, l, a', c'⟩)], by omega, rfl, by go_num, ?_, by rw [HTK.out, ← HK.out]; simp [bkBn, Kv.tn], ?_⟩
          · refine HL.out.grow b2 (fun k hk => ?_) hwz HG3.out (HA3.out.imp (fun e => e.symm) (fun e => by rw [e]; rfl)) ?_
            · simp only [List.mem_singleton] at hk
              subst hk
              exact HO1.out.below ((Below.refl _ _).alloc (Nat.le_refl _) _)
            · rw [bkAll_snoc, List.length_append, HKL.out]
              exact HO3.out
          · exact HW.out.trans ((b2.mono hwz).grown HG3.out (by have := HW1.out.size; rw [World.size_alloc]; omega) (fun k e => (owns_cells HL.out.row e).1))
        case measure => simp [intOf]; omega
    · have hjl : j = bs.length := by omega
      subst hjl
      have hks' : ks.map bkBn = bs := by have := HK.out; rwa [List.take_of_length_le (Nat.le_refl _)] at this
      have HK2 := hid hks'
      have hwz := HW.out.size
      have bx := (Below.refl _ wr).alloc (Nat.le_refl _) (.cells #[.string ⟨#[77, 97, 114, 107]⟩, .string ⟨#[]⟩, .int .i64 0, .slice none 0 0] 42)
      have BX := hid bx
      clear hks' bx
      go_wp2_with (at_builtin; go_loud (refine wpList_append_bk rfl _ _ rfl w.heap.size ov ks rfl (owns_below HL.out.row BX.out) wr.heap.size (markB, ⟨(⟨#[]⟩, 0), .nil, none, 0⟩) rfl (World.news_of_block (heap_alloc_new wr _)) (by rw [HKL.out]; omega) (by have := BX.out.size; omega) ?_; intro g3 cap3 w3 hown3 hgrow3 hat3; rw [List.length_append, List.length_singleton, HKL.out] at hown3; have hcap3 := owns_cap hown3; rw [HKL.out]; have HO3 := hid hown3; have HG3 := hid hgrow3; have HA3 := hid hat3; have hc3 : bs.length ≤ cap3 := (by omega); have hc4 : cap3 ≤ 9223372036854775807 := (by have := hcap3.2; omega); clear hown3 hgrow3 hat3 hcap3))
      go_ret
      refine ⟨g3, cap3, rfl, lent_of (P := fun q => w.heap.size ≤ q) (m := (markB, ⟨(⟨#[]⟩, 0), .nil, none, 0⟩)) (ks := ks) rfl (by rw [HKL.out]; exact HO3.out) (fun k hk => ?_) HK2.out HB.out.fits, (owns_cells HO3.out rfl).1, ?_⟩
      · have h1 := (HL.out.own k hk).below BX.out
        exact (h1.keep (fun q hq hlt => HG3.out.block q hlt hq.2)).mono (fun q _ hq => hq.1)
      · exact HW.out.trans ((BX.out.mono hwz).grown HG3.out (by rw [World.size_alloc]; omega) (fun k e => (owns_cells HL.out.row e).1))
end Go.Proofs.YtgcnjpiiofjljaaGreatDoor
/- Binds under way no two of whose terms share a block; what clone and Restrict answer. -/
namespace Go.Proofs.YtgcnjpiiofjljaaGreatDoor
open Go.RowKit Go.Deep

/-- Binds under way: a row of its own, the terms' lists elsewhere, each another. -/
structure SepB (B : Nat) (W : World) (v : Value) (ks : List Bk) : Prop where
  row : W.ownsRow B 42 4 v ks.length (bkAll ks)
  gl : GL SepE W (ks.map (·.2)) (fun q => B ≤ q ∧ some q ≠ v.ownBlock)
theorem SepB.nil (B : Nat) (W : World) : SepB B W (.slice none 0 0) [] := ⟨World.ownsRow_nil _ _ _ _, trivial⟩
theorem SepB.below {B : Nat} {W W' : World} {v : Value} {ks : List Bk} (h : SepB B W v ks) (hb : Below W.heap.size W W') : SepB B W' v ks := ⟨owns_below h.row hb, h.gl.keep sepE (fun q _ hlt => hb.block q hlt)⟩
theorem SepB.lt {B : Nat} {W : World} {v : Value} {ks : List Bk} {g : Nat} (h : SepB B W v ks) (hg : v.ownBlock = some g) : g < W.heap.size := by
  obtain ⟨cur, hc⟩ := (owns_cells h.row hg).2
  exact (Array.getElem?_eq_some_iff.1 hc).1
theorem SepB.tm {B : Nat} {W : World} {v : Value} {ks : List Bk} (h : SepB B W v ks) : ∀ k ∈ ks, TmAt W k.2.x k.2.a k.2.c k.2.l := fun k hk => by
  obtain ⟨A, _, hA⟩ := h.gl.mem (List.mem_map_of_mem (f := (·.2)) hk)
  exact SepTm.tm hA
theorem SepB.grow {B : Nat} {W W1 W2 : World} {v v' : Value} {ks : List Bk} {y : Bk} (h : SepB B W v ks) (hW : Below W.heap.size W W1) (hm : SepTm W1 (fun q => W.heap.size ≤ q) y.2.x y.2.a y.2.c y.2.l) (hB : B ≤ W.heap.size)
    (hg : W1.grownBy W2 v.ownBlock) (hat : v'.ownBlock = v.ownBlock ∨ v'.ownBlock = some W1.heap.size) (ho : W2.ownsRow B 42 4 v' (ks ++ [y]).length (bkAll (ks ++ [y]))) : SepB B W2 v' (ks ++ [y]) := by
  refine ⟨ho, ?_⟩
  have hsz := hW.size
  have h1 : GL SepE W2 (ks.map (·.2)) (fun q => (B ≤ q ∧ some q ≠ v.ownBlock) ∧ q < W.heap.size) := by
    refine (h.gl.within sepE).keep sepE (fun q hq hlt => ?_)
    rw [hg.block q (by omega) hq.1.2]
    exact hW.block q hlt
  have h2 : SepTm W2 (fun q => W.heap.size ≤ q ∧ q < W1.heap.size) y.2.x y.2.a y.2.c y.2.l := (SepTm.within hm).keep (fun q hq hlt => hg.block q hlt (fun e => by have := h.lt e.symm; omega))
  have h3 := GL.snoc (E := SepE) (k := y.2) h1 h2 (fun q hq hq2 => by omega)
  rw [List.map_append]
  refine h3.mono fun q hq => ?_
  rcases hq with ⟨⟨hq1, hq2⟩, hq3⟩ | ⟨hq1, hq2⟩
  · refine ⟨hq1, ?_⟩
    rcases hat with e | e
    · rw [e]; exact hq2
    · rw [e]; intro e'; cases e'; omega
  · refine ⟨by omega, ?_⟩
    rcases hat with e | e
    · rw [e]; intro e'; have := h.lt e'.symm; omega
    · rw [e]; intro e'; cases e'; omega
theorem SepB.slice {B : Nat} {W : World} {v : Value} {ks : List Bk} (h : SepB B W v ks) : (v = .slice none 0 0 ∧ ks = []) ∨ ∃ g cap, v = .slice (some ⟨g, 0, none⟩) ks.length cap := by
  rcases h.row.2 with ⟨h1, h2⟩ | ⟨g, cap, cur, h1, _⟩
  · exact .inl ⟨h1, List.eq_nil_of_length_eq_zero h2⟩
  · exact .inr ⟨g, cap, h1⟩
/-- As binds in memory. -/
theorem SepB.binds {B : Nat} {W : World} {ks : List Bk} {P : Option Addr} {c : Nat} (h : SepB B W (.slice P ks.length c) ks) (hf : ∀ k ∈ ks, k.1.size ≤ maxLen) : BindsAt W P ks.length (ks.map bkBn) := by
  have hf' : ∀ x ∈ ks.map bkBn, x.1.size ≤ maxLen := fun x hx => by
    obtain ⟨k, hk, rfl⟩ := List.mem_map.1 hx
    exact hf k hk
  rcases h.slice with ⟨_, rfl⟩ | ⟨g, cap, hv⟩
  · exact ⟨rfl, by simp, fun i hi => absurd hi (by simp), hf'⟩
  · cases hv
    have hc := owns_cap h.row
    refine ⟨by simp, by omega, fun i hi => ?_, hf'⟩
    have hi' : i < ks.length := by simpa using hi
    refine ⟨g, 0, ks[i].2.a, ks[i].2.c, rfl, ?_⟩
    have := row_bd h.row i hi' (h.tm _ (List.getElem_mem hi'))
    simpa using this

theorem Tryz.size42 : (Tryz.prog.info? 42).map (·.size) = some 4 := by kernel_rfl
/-- Four cells stored. -/
theorem box50_all {W : World} {B : Nat} {y0 y1 y2 y3 : Value} (h : Box W B 42 #[y0, y1, y2, y3]) (x0 x1 x2 x3 : Value) : Box ((((W.setCell ⟨B, 0, none⟩ x0).setCell ⟨B, 1, none⟩ x1).setCell ⟨B, 2, none⟩ x2).setCell ⟨B, 3, none⟩ x3) B 42 #[x0, x1, x2, x3] := by
  have := block_set (k := 3) (block_set (k := 2) (block_set (k := 1) (block_set (k := 0) h x0) x1) x2) x3
  exact this
theorem sets4_far {W : World} {B q : Nat} (h : q ≠ B) (a b c d : Value) : ((((W.setCell ⟨B, 0, none⟩ a).setCell ⟨B, 1, none⟩ b).setCell ⟨B, 2, none⟩ c).setCell ⟨B, 3, none⟩ d).heap[q]? = W.heap[q]? :=
  (((Below.heap_setCell _ _ _ _ h).trans (Below.heap_setCell _ _ _ _ h)).trans (Below.heap_setCell _ _ _ _ h)).trans (Below.heap_setCell _ _ _ _ h)
theorem sets4_below {n0 : Nat} {w W : World} {B : Nat} (hb : Below n0 w W) (h : n0 ≤ B) (a b c d : Value) : Below n0 w ((((W.setCell ⟨B, 0, none⟩ a).setCell ⟨B, 1, none⟩ b).setCell ⟨B, 2, none⟩ c).setCell ⟨B, 3, none⟩ d) :=
  (((hb.setCell (p := ⟨B, 0, none⟩) h _).setCell (p := ⟨B, 1, none⟩) h _).setCell (p := ⟨B, 2, none⟩) h _).setCell (p := ⟨B, 3, none⟩) h _
end Go.Proofs.YtgcnjpiiofjljaaGreatDoor
/- What Spoil turns: the lists of the term it is handed, nothing else; what Exact answers of two that are alike. -/
namespace Go.Proofs.YtgcnjpiiofjljaaGreatDoor
open Go.RowKit Go.Deep

/-- Nothing that there was has turned but blocks of A. -/
structure Fr (A : Nat → Prop) (w w' : World) : Prop where
  low : Below 0 w w'
  same : ∀ k, k < w.heap.size → ¬ A k → w'.heap[k]? = w.heap[k]?
theorem Fr.refl (A : Nat → Prop) (w : World) : Fr A w w := ⟨Below.refl _ _, fun _ _ _ => rfl⟩
theorem Fr.trans {A : Nat → Prop} {x y z : World} (h : Fr A x y) (k : Fr A y z) : Fr A x z := ⟨h.low.trans k.low, fun q hq hA => (k.same q (Nat.lt_of_lt_of_le hq h.low.size) hA).trans (h.same q hq hA)⟩
theorem Fr.mono {A A' : Nat → Prop} {x y : World} (hA : ∀ k, A k → A' k) (h : Fr A x y) : Fr A' x y := ⟨h.low, fun q hq hn => h.same q hq (fun h' => hn (hA q h'))⟩
theorem Fr.of_below {A : Nat → Prop} {x y : World} (h : Below x.heap.size x y) : Fr A x y := ⟨h.mono (Nat.zero_le _), fun q hq _ => h.block q hq⟩
theorem Fr.below {A : Nat → Prop} {x y : World} {n : Nat} (h : Fr A x y) (hn : ∀ k, A k → n ≤ k) (hs : n ≤ x.heap.size) : Below n x y := ⟨h.low.os, h.low.tape, h.low.output, h.low.size, fun k hk => h.same k (by omega) (fun hA => by have := hn k hA; omega)⟩
theorem Fr.sets {A : Nat → Prop} {W : World} {g : Nat} (hg : A g) (i j k : Nat) (a b c : Value) : Fr A W (((W.setCell ⟨g, i, none⟩ a).setCell ⟨g, j, none⟩ b).setCell ⟨g, k, none⟩ c) :=
  ⟨(((Below.refl 0 W).setCell (p := ⟨g, i, none⟩) (Nat.zero_le _) _).setCell (p := ⟨g, j, none⟩) (Nat.zero_le _) _).setCell (p := ⟨g, k, none⟩) (Nat.zero_le _) _, fun q _ hn => by
    have : q ≠ g := fun e => hn (e ▸ hg)
    rw [Below.heap_setCell _ _ _ q this, Below.heap_setCell _ _ _ q this, Below.heap_setCell _ _ _ q this]⟩
/-- Three cells of a row are turned; those behind them are not. -/
theorem sets_behind {W : World} {g i n : Nat} {a b c : Value} {v : Value} (hi : n + 3 ≤ i) (h : W.cell? ⟨g, i, none⟩ = some v) : (((W.setCell ⟨g, n, none⟩ a).setCell ⟨g, n + 1, none⟩ b).setCell ⟨g, n + 2, none⟩ c).cell? ⟨g, i, none⟩ = some v := by
  rw [World.cell?_setCell_other _ _ _ _ (fun e => by cases e; omega), World.cell?_setCell_other _ _ _ _ (fun e => by cases e; omega), World.cell?_setCell_other _ _ _ _ (fun e => by cases e; omega)]
  exact h
theorem row_frozen {W : World} {g i : Nat} {cur : Array Value} {t : TypeId} (h : W.heap[g]? = some (Obj.cells cur t (0, 0))) : W.frozen? ⟨g, i, none⟩ = false := by simp [World.frozen?, h]

def SpoilOk (k : Nat) : Prop := ∀ (A : Nat → Prop) (x : ByteArray × Int) (l : Fo) (a : Option Addr) (c : Nat) (w : World), nodesF l ≤ k → SepTm w A x a c l →
  Calls Tryz.prog 30 #[.agg #[.string x.1, .int .i64 x.2, .slice a (lenF l) c]] w fun e w' => (∃ v, e = .returned v) ∧ Fr A w w'

set_option maxRecDepth 100000 in
set_option maxHeartbeats 2000000 in
theorem spoil_all : ∀ k, SpoilOk k := by
  intro k
  induction k using Nat.strongRecOn with
  | _ k ih =>
    intro A' x l a c w hk hS'
    have hn : lenF l ≤ 9223372036854775807 := by have := hS'.sizes.len; have := hS'.sizes.cap; unfold maxLen at *; omega
    obtain ⟨A, hA⟩ : ∃ A, A = fun k => A' k ∧ k < w.heap.size := ⟨_, rfl⟩
    have hS : SepTm w A x a c l := by rw [hA]; exact hS'.within
    have HA : Hid (∀ k, A k → A' k ∧ k < w.heap.size) := by show ∀ _, _; rw [hA]; exact fun k hk => hk
    clear hS' hA
    have IH : Hid (∀ j, j < k → SpoilOk j) := ih
    have hb0 : Below w.heap.size w (w.alloc (.cells #[.string x.1, .int .i64 x.2, .slice a (lenF l) c] 27)) := (Below.refl _ w).alloc (Nat.le_refl _) _
    have bT := TBox.new w x a (lenF l) c
    clear ih
    rcases hS.list with hl | ⟨g, cur, rfl, hAg, hcur, hsk⟩
    · subst hl
      go_enter Tryz.func30, Tryz.ntmps30
      go_wp2
      go_loopw [2] (fun i wr => i = .int .i64 0 ∧ Below w.heap.size w wr ∧ TBox wr w.heap.size x a (lenF .nil) c) (fun _ _ => 0)
      case atStart => exact ⟨rfl, hb0, bT⟩
      case round =>
        obtain ⟨rfl, hb, hT⟩ := hrel
        have t2 := hT.c2
        simp only [lenF] at t2
        go_wp2
        go_end0
        exact ⟨⟨_, rfl⟩, Fr.of_below hb⟩
    · have hS0 : SepKids (w.alloc (.cells #[.string x.1, .int .i64 x.2, .slice (some ⟨g, 0, none⟩) (lenF l) c] 27)) l (fun k => A k ∧ k ≠ g) g 0 := hsk.keep (fun q _ hlt => hb0.block q hlt) (fun i v _ hv => below_cell hb0 _ _ hv)
      have hg0 : (w.alloc (.cells #[.string x.1, .int .i64 x.2, .slice (some ⟨g, 0, none⟩) (lenF l) c] 27)).heap[g]? = some (Obj.cells cur 27 (0, 0)) := (hb0.block g (HA.out g hAg).2).trans hcur
      have F0 : Hid (Fr A w (w.alloc (.cells #[.string x.1, .int .i64 x.2, .slice (some ⟨g, 0, none⟩) (lenF l) c] 27))) := Fr.of_below hb0
      clear hS hsk hcur hb0
      go_enter Tryz.func30, Tryz.ntmps30
      go_wp2
      go_loopw [2] (fun i wr => ∃ (j : Nat) (B : Nat → Prop) (cur : Array Value), j ≤ lenF l ∧ i = .int .i64 j ∧ (∀ k, B k → A k ∧ k ≠ g) ∧ Fr A w wr ∧ TBox wr w.heap.size x (some ⟨g, 0, none⟩) (lenF l) c ∧ wr.heap[g]? = some (Obj.cells cur 27 (0, 0)) ∧ SepKids wr (dropF j l) B g (j * 3)) (fun i _ => lenF l - (intOf i).toNat)
      case atStart => exact ⟨0, _, cur, Nat.zero_le _, rfl, fun k hk => hk, F0.out, bT, hg0, by rw [drop_zero]; simpa using hS0⟩
      case round =>
        obtain ⟨j, B, cur', hj, rfl, hBA, hF, hT, hG, hK⟩ := hrel
        have t2 := hT.c2
        by_cases hlt : j < lenF l
        · obtain ⟨b1, o1, y, l1, r1, hd⟩ := drop_node j l hlt
          have hnd := nodes_drop j l
          have hds := drop_succ j l hd
          rw [hd] at hK hnd
          obtain ⟨A1, A2, hA1, hA2, ⟨a1, c1, p0, p1, p2, hsz, hl1⟩, hrest⟩ := hK
          have hC := IH.out (nodesF l1) (by simp only [nodesF] at hnd; omega) A1 y l1 a1 c1 wr (Nat.le_refl _) ⟨hsz, hl1⟩
          have HF : Hid (Fr A w wr) := hF
          have HT : Hid (TBox wr w.heap.size x (some ⟨g, 0, none⟩) (lenF l) c) := hT
          have HG : Hid (wr.heap[g]? = some (Obj.cells cur' 27 (0, 0))) := hG
          have HR : Hid (SepKids wr r1 A2 g (j * 3 + 3)) := hrest
          clear hF hT hG hrest hsz hl1 hS0 hg0 bT hd hnd
          go_wp2_with fail
          refine hC.mono ?_
          rintro e w2 ⟨⟨v, rfl⟩, hf2⟩
          have hgA1 : ¬ A1 g := fun h => (hBA g (hA1 g h)).2 rfl
          have hG2 : w2.heap[g]? = some (Obj.cells cur' 27 (0, 0)) := (hf2.same g (Array.getElem?_eq_some_iff.1 HG.out).1 hgA1).trans HG.out
          have hT2 : TBox w2 w.heap.size x (some ⟨g, 0, none⟩) (lenF l) c := (hf2.same _ HT.out.lt (fun h => by have := (HA.out _ (hBA _ (hA1 _ h)).1).2; omega)).trans HT.out
          have z2 := hT2.c2
          have q0 : w2.cell? ⟨g, j * 3, none⟩ = some (.string y.1) := (World.cell?_of_block (hG2.trans HG.out.symm)).trans p0
          have q1 : w2.cell? ⟨g, j * 3 + 1, none⟩ = some (.int .i64 y.2) := (World.cell?_of_block (hG2.trans HG.out.symm)).trans p1
          have q2 : w2.cell? ⟨g, j * 3 + 2, none⟩ = some (.slice a1 (lenF l1) c1) := (World.cell?_of_block (hG2.trans HG.out.symm)).trans p2
          have f0 := row_frozen (i := j * 3) hG2
          have f1 := row_frozen (i := j * 3 + 1) hG2
          have f2 := row_frozen (i := j * 3 + 2) hG2
          have HF2 : Hid (Fr A1 wr w2) := hf2
          have HG2 : Hid (w2.heap[g]? = some (Obj.cells cur' 27 (0, 0))) := hG2
          have HT2 : Hid (TBox w2 w.heap.size x (some ⟨g, 0, none⟩) (lenF l) c) := hT2
          clear hC hf2 hG2 hT2 p0 p1 p2 t2
          go_wp2
          go_roundw
          case rel =>
            refine ⟨j + 1, A2, _, by omega, by go_num, fun q hq => hBA q (hA2 q hq).1, (HF.out.trans (HF2.out.mono (fun q hq => (hBA q (hA1 q hq)).1))).trans (Fr.sets hAg _ _ _ _ _ _), ?_, block_set (block_set (block_set HG2.out _) _) _, ?_⟩
            · have : w.heap.size ≠ g := by have := (HA.out g hAg).2; omega
              exact (((Below.heap_setCell _ _ _ _ this).trans (Below.heap_setCell _ _ _ _ this)).trans (Below.heap_setCell _ _ _ _ this)).trans HT2.out
            · rw [hds, show (j + 1) * 3 = j * 3 + 3 by omega]
              refine (HR.out.keep (w' := w2) (fun q hq hlt' => HF2.out.same q hlt' (hA2 q hq).2) (fun i v _ hv => (World.cell?_of_block (HG2.out.trans HG.out.symm)).trans hv)).keep (fun q hq _ => ?_) (fun i v hi hv => sets_behind hi hv)
              have : q ≠ g := (hBA q (hA2 q hq).1).2
              exact ((Below.heap_setCell _ _ _ _ this).trans (Below.heap_setCell _ _ _ _ this)).trans (Below.heap_setCell _ _ _ _ this)
          case measure => simp [intOf]; omega
        · go_wp2
          go_end0
          exact ⟨⟨_, rfl⟩, hF.mono (fun q hq => (HA.out q hq).1)⟩
theorem spoil_any (A : Nat → Prop) (x : ByteArray × Int) (l : Fo) (a : Option Addr) (c : Nat) (w : World) (hS : SepTm w A x a c l) :
    Calls Tryz.prog 30 #[.agg #[.string x.1, .int .i64 x.2, .slice a (lenF l) c]] w fun e w' => (∃ v, e = .returned v) ∧ Fr A w w' := spoil_all _ A x l a c w (Nat.le_refl _) hS

def ExactOk (k : Nat) : Prop := ∀ (x : ByteArray × Int) (l : Fo) (a b : Option Addr) (c d : Nat) (w : World), nodesF l ≤ k → TmAt w x a c l → TmAt w x b d l →
  Calls Tryz.prog 67 #[.agg #[.string x.1, .int .i64 x.2, .slice a (lenF l) c], .agg #[.string x.1, .int .i64 x.2, .slice b (lenF l) d]] w fun e w' => e = .returned (.bool true) ∧ Below w.heap.size w w'

set_option maxRecDepth 100000 in
set_option maxHeartbeats 2000000 in
theorem exact_all : ∀ k, ExactOk k := by
  intro k
  induction k using Nat.strongRecOn with
  | _ k ih =>
    intro x l a b c d w hk hS hT
    have HS : Hid (TmAt w x a c l) := hS
    have HT : Hid (TmAt w x b d l) := hT
    have IH : Hid (∀ j, j < k → ExactOk j) := ih
    have PA : Hid (Pair w x a (lenF l) c x b (lenF l) d ((w.alloc (.cells #[.string x.1, .int .i64 x.2, .slice a (lenF l) c] 27)).alloc (.cells #[.string x.1, .int .i64 x.2, .slice b (lenF l) d] 27))) := Pair.new _ _ _ _ _ _ _ _ _
    have hn : lenF l ≤ 9223372036854775807 := by have := hS.sizes.len; have := hS.sizes.cap; unfold maxLen at *; omega
    clear hS hT ih
    go_enter Tryz.func67, Tryz.ntmps67
    go_wp2
    go_loopw [5, 6] (fun i _ wr => ∃ j : Nat, j ≤ lenF l ∧ i = .int .i64 j ∧ Pair w x a (lenF l) c x b (lenF l) d wr) (fun i _ _ => lenF l - (intOf i).toNat)
    case atStart => exact ⟨0, Nat.zero_le _, rfl, PA.out⟩
    case round =>
      obtain ⟨j, hj, rfl, hP⟩ := hrel
      have t2 := hP.l.c2
      by_cases hlt : j < lenF l
      · obtain ⟨b1, o1, rfl, hk1⟩ := HS.out.args.get (by omega)
        obtain ⟨bb, oo, rfl, hkk⟩ := HT.out.args.get (by omega)
        obtain ⟨y, a1, c1, l1, kd⟩ := hk1.kid (k := j) hlt
        obtain ⟨y', a2, c2, l2, kd2⟩ := hkk.kid (k := j) hlt
        obtain ⟨rfl, rfl⟩ := kid_same kd kd2
        have kd' := kd.below hP.low
        have kd2' := kd2.below hP.low
        have HP : Hid (Pair w x (some ⟨b1, o1, none⟩) (lenF l) c x (some ⟨bb, oo, none⟩) (lenF l) d wr) := hP
        have hC : Hid (∀ w', Below wr.heap.size wr w' → Calls Tryz.prog 67 #[.agg #[.string y'.1, .int .i64 y'.2, .slice a1 (lenF l2) c1], .agg #[.string y'.1, .int .i64 y'.2, .slice a2 (lenF l2) c2]] w' fun e w'' => e = .returned (.bool true) ∧ Below w'.heap.size w' w'') := fun w' hb =>
          IH.out (nodesF l2) (by have := kd.less; omega) y' l2 a1 a2 c1 c2 w' (Nat.le_refl _) (kd'.at_.below hb) (kd2'.at_.below hb)
        have hne := later_some wr
        have d0 := later_cell hP.l.c2
        have d1 := later_cell hP.r.c2
        have p0 := later_cell kd'.name; have p1 := later_cell kd'.sym; have p2 := later_cell kd'.list
        have q0 := later_cell kd2'.name; have q1 := later_cell kd2'.sym; have q2 := later_cell kd2'.list
        have hk0 : (0 : Int) ≤ (j : Int) := by omega
        have hkn : (j : Int) < (lenF l : Int) := by omega
        clear kd kd2 kd' kd2' hk1 hkk hP
        go_wp2_with fail
        refine wp_region_later (by kernel_rfl) (by kernel_rfl) ?_
        repeat (go_big_quiet_step ((refine calls_later (hC.out _ ?_); exact Later.below _)))
        refine wpQuiet_nil ?_
        intro _ hw'
        obtain ⟨b2, hw''⟩ := hw'
        subst hw''
        have HP2 : Hid (Pair w x (some ⟨b1, o1, none⟩) (lenF l) c x (some ⟨bb, oo, none⟩) (lenF l) d b2.now) := HP.out.below b2.below
        clear d0 d1 p0 p1 p2 q0 q1 q2 t2
        go_wp2
        go_roundw
        case rel => exact ⟨j + 1, by omega, by go_num, HP2.out⟩
        case measure => simp [intOf]; omega
      · go_wp2
        go_ret
        exact ⟨rfl, hP.low⟩
theorem exact_any (x : ByteArray × Int) (l : Fo) (a b : Option Addr) (c d : Nat) (w : World) (hS : TmAt w x a c l) (hT : TmAt w x b d l) :
    Calls Tryz.prog 67 #[.agg #[.string x.1, .int .i64 x.2, .slice a (lenF l) c], .agg #[.string x.1, .int .i64 x.2, .slice b (lenF l) d]] w fun e w' => e = .returned (.bool true) ∧ Below w.heap.size w w' := exact_all _ x l a b c d w (Nat.le_refl _) hS hT
end Go.Proofs.YtgcnjpiiofjljaaGreatDoor
/- What the document's Parts answers, of any term. -/
namespace Go.Proofs.YtgcnjpiiofjljaaGreatDoor
open Go.RowKit Go.Deep

set_option maxRecDepth 100000 in
/-- A list of one new term. -/
theorem Lst.one {B : Nat} {W : World} (k : Kv) (hB : B ≤ W.heap.size) (h : OwnTm false (fun q => B ≤ q) W k.x k.a k.c k.l) : Lst B (W.alloc (.cells #[.string k.x.1, .int .i64 k.x.2, .slice k.a (lenF k.l) k.c] 27)) (.slice (some ⟨W.heap.size, 0, none⟩) 1 1) [k] := by
  refine ⟨⟨rfl, .inr ⟨W.heap.size, 1, _, rfl, hB, World.alloc_heap_new W _, Nat.le_refl _, by decide, rfl, rfl⟩⟩, fun k' hk => ?_⟩
  simp only [List.mem_singleton] at hk
  subst hk
  have h2 : OwnTm false (fun q => B ≤ q ∧ some q ≠ some W.heap.size) W k'.x k'.a k'.c k'.l := h.mono (fun q hq hp => ⟨hp, fun e => by cases e; omega⟩)
  exact h2.below ((Below.refl _ _).alloc (Nat.le_refl _) _)

set_option maxRecDepth 100000 in
set_option maxHeartbeats 2000000 in
theorem parts_any (a : Option Addr) (n cap : Nat) (l : List Sym) (f : Int) (t : Tn) (ta : Option Addr) (tc : Nat) (w : World) (hS : SigAt w a n l) (hT : TmAt w t.1 ta tc t.2) :
    Calls Tryz.prog 68 #[.slice a n cap, .int .i64 f, .agg #[.string t.1.1, .int .i64 t.1.2, .slice ta (lenF t.2) tc]] w fun e w' => ∃ v ks, e = .returned v ∧ Lst w.heap.size w' v ks ∧ (ks = [] → v = .slice none 0 0) ∧ ks.map Kv.tn = partsN (sgOf l) f t ∧ Below w.heap.size w w' := by
  obtain ⟨⟨nm, sy⟩, F⟩ := t
  have HS : Hid (SigAt w a n l) := hS
  have HT : Hid (TmAt w (nm, sy) ta tc F) := hT
  have hb := TBox.new w (nm, sy) ta (lenF F) tc
  have hlow : Hid (Below w.heap.size w (w.alloc (.cells #[.string nm, .int .i64 sy, .slice ta (lenF F) tc] 27))) := (Below.refl _ w).alloc (Nat.le_refl _) _
  have HJ : Hid (∀ W, Below w.heap.size w W → Calls Tryz.prog 47 #[.slice a n cap, .int .i64 f] W fun e w' => e = .returned (.bool (joinsAt l f)) ∧ Below W.heap.size W w') := fun W hW => joins_any a n cap l f W (HS.out.below hW)
  have HU : Hid (∀ W, Below w.heap.size w W → Calls Tryz.prog 69 #[.slice a n cap, .int .i64 f] W fun e w' => UnitRet l f e ∧ w' = W) := fun W hW => runit_any a n cap l f W (HS.out.below hW)
  have HC : Hid (∀ u W, Calls Tryz.prog 83 #[.agg #[.string nm, .int .i64 sy, .slice ta (lenF F) tc], .int .i64 u] W fun e w' => e = .returned (.bool (isConst ((nm, sy), F) u)) ∧ Below W.heap.size W w') := fun u W => constant_any ((nm, sy), F) ta tc u W (by have := HT.out.sizes.few; show lenF F ≤ _; omega)
  have HL : Hid (∀ W, Below w.heap.size w W → Calls Tryz.prog 35 #[.agg #[.string nm, .int .i64 sy, .slice ta (lenF F) tc]] W fun e w' => ∃ a' c', e = .returned (.agg #[.string nm, .int .i64 sy, .slice a' (lenF F) c']) ∧ RowTm W.heap.size w' (nm, sy) a' c' F ∧ Below W.heap.size W w') := fun W hW => rclone_any (nm, sy) F ta tc W (HT.out.below hW)
  have HK : Hid (∀ W, Below w.heap.size w W → Calls Tryz.prog 84 #[.slice ta (lenF F) tc] W fun e w' => ∃ v ks, e = .returned v ∧ Lst W.heap.size w' v ks ∧ (ks = [] → v = .slice none 0 0) ∧ ks.map Kv.tn = kidsL F ∧ Below W.heap.size W w') := fun W hW => clones_any ta F tc W (HT.out.args.below hW) (by have := HT.out.sizes.few; omega)
  clear hS hT
  cases hj : joinsAt l f
  · have e : Hid (partsN (sgOf l) f ((nm, sy), F) = [((nm, sy), F)]) := by show _ = _; unfold partsN; rw [if_pos (show (sgOf l).joins f = false from hj)]
    go_enter Tryz.func68, Tryz.ntmps68
    rw [hj] at HJ
    go_wp2_with (first
      | (go_at_call 47; refine (HJ.out _ hlow.out).mono ?_; rintro e w1 ⟨rfl, hb1⟩; have HB1 : Hid (Below w.heap.size w w1) := hlow.out.trans (hb1.mono (by simp)); have hbx := hb.below hb1; have HBX : Hid (TBox w1 w.heap.size (nm, sy) ta (lenF F) tc) := hbx; have c0 := hbx.c0; have c1 := hbx.c1; have c2 := hbx.c2; clear hb1 hbx)
      | (go_at_call 35; refine (HL.out _ HB1.out).mono ?_; rintro e w2 ⟨a', c', rfl, ho2, hb2⟩; have HO2 : Hid (RowTm w1.heap.size w2 (nm, sy) a' c' F) := ho2; have HB2 : Hid (Below w.heap.size w w2) := HB1.out.trans (hb2.mono HB1.out.size); clear ho2 hb2))
    go_ret
    refine ⟨_, [⟨(nm, sy), F, a', c'⟩], rfl, Lst.one ⟨(nm, sy), F, a', c'⟩ HB2.out.size (HO2.out.own.mono (fun q _ hq => Nat.le_trans HB1.out.size hq)), (fun h => by simp at h), by rw [e.out]; rfl, HB2.out.alloc HB2.out.size _⟩
  · have hj' : ¬ (sgOf l).joins f = false := by show ¬ joinsAt l f = false; rw [hj]; simp
    have rest : isUn (sgOf l) f ((nm, sy), F) = false → partsN (sgOf l) f ((nm, sy), F) = if headed f ((nm, sy), F) then kidsL F else [((nm, sy), F)] := fun h => by unfold partsN; rw [if_neg hj', if_neg (by rw [h]; simp)]
    have REST : Hid (isUn (sgOf l) f ((nm, sy), F) = false → partsN (sgOf l) f ((nm, sy), F) = if headed f ((nm, sy), F) then kidsL F else [((nm, sy), F)]) := rest
    have NONE : Hid (isUn (sgOf l) f ((nm, sy), F) = true → partsN (sgOf l) f ((nm, sy), F) = []) := fun h => by unfold partsN; rw [if_neg hj', if_pos h]
    clear rest hj'
    obtain ⟨ui, hui⟩ : ∃ ui, unitI l f = ui := ⟨_, rfl⟩
    cases huo : unitOk l f
    · have hun : Hid (isUn (sgOf l) f ((nm, sy), F) = false) := by show _ = _; unfold unitOk at huo; cases hq : unitAt l f with | none => simp [isUn, sgOf, hq] | some i => rw [hq] at huo; simp at huo
      cases hn : nm.toList.isEmpty
      · have e : Hid (partsN (sgOf l) f ((nm, sy), F) = [((nm, sy), F)]) := by show _ = _; rw [REST.out hun.out]; unfold headed noName; rw [hn]; simp
        go_enter Tryz.func68, Tryz.ntmps68
        rw [hj] at HJ
        go_wp2_with (first
          | (go_at_call 47; refine (HJ.out _ hlow.out).mono ?_; rintro e w1 ⟨rfl, hb1⟩; have HB1 : Hid (Below w.heap.size w w1) := hlow.out.trans (hb1.mono (by simp)); have hbx := hb.below hb1; have HBX : Hid (TBox w1 w.heap.size (nm, sy) ta (lenF F) tc) := hbx; have c0 := hbx.c0; have c1 := hbx.c1; have c2 := hbx.c2; clear hb1 hbx)
          | (go_at_call 69; refine (HU.out _ HB1.out).mono ?_; rintro e w9 ⟨he, hw9⟩; unfold UnitRet at he; rw [hui, huo] at he; subst he; rw [hw9]; clear hw9)
          | (go_at_call 35; refine (HL.out _ HB1.out).mono ?_; rintro e w2 ⟨a', c', rfl, ho2, hb2⟩; have HO2 : Hid (RowTm w1.heap.size w2 (nm, sy) a' c' F) := ho2; have HB2 : Hid (Below w.heap.size w w2) := HB1.out.trans (hb2.mono HB1.out.size); clear ho2 hb2))
        go_ret
        refine ⟨_, [⟨(nm, sy), F, a', c'⟩], rfl, Lst.one ⟨(nm, sy), F, a', c'⟩ HB2.out.size (HO2.out.own.mono (fun q _ hq => Nat.le_trans HB1.out.size hq)), (fun h => by simp at h), by rw [e.out]; rfl, HB2.out.alloc HB2.out.size _⟩
      · cases hs : (sy == f)
        · have e : Hid (partsN (sgOf l) f ((nm, sy), F) = [((nm, sy), F)]) := by show _ = _; rw [REST.out hun.out]; unfold headed; rw [hs]; simp
          go_enter Tryz.func68, Tryz.ntmps68
          rw [hj] at HJ
          go_wp2_with (first
            | (go_at_call 47; refine (HJ.out _ hlow.out).mono ?_; rintro e w1 ⟨rfl, hb1⟩; have HB1 : Hid (Below w.heap.size w w1) := hlow.out.trans (hb1.mono (by simp)); have hbx := hb.below hb1; have HBX : Hid (TBox w1 w.heap.size (nm, sy) ta (lenF F) tc) := hbx; have c0 := hbx.c0; have c1 := hbx.c1; have c2 := hbx.c2; clear hb1 hbx)
            | (go_at_call 69; refine (HU.out _ HB1.out).mono ?_; rintro e w9 ⟨he, hw9⟩; unfold UnitRet at he; rw [hui, huo] at he; subst he; rw [hw9]; clear hw9)
            | (go_at_call 35; refine (HL.out _ HB1.out).mono ?_; rintro e w2 ⟨a', c', rfl, ho2, hb2⟩; have HO2 : Hid (RowTm w1.heap.size w2 (nm, sy) a' c' F) := ho2; have HB2 : Hid (Below w.heap.size w w2) := HB1.out.trans (hb2.mono HB1.out.size); clear ho2 hb2))
          go_ret
          refine ⟨_, [⟨(nm, sy), F, a', c'⟩], rfl, Lst.one ⟨(nm, sy), F, a', c'⟩ HB2.out.size (HO2.out.own.mono (fun q _ hq => Nat.le_trans HB1.out.size hq)), (fun h => by simp at h), by rw [e.out]; rfl, HB2.out.alloc HB2.out.size _⟩
        · have e : Hid (partsN (sgOf l) f ((nm, sy), F) = kidsL F) := by show _ = _; rw [REST.out hun.out]; unfold headed noName; rw [hn, hs]; simp
          go_enter Tryz.func68, Tryz.ntmps68
          rw [hj] at HJ
          go_wp2_with (first
            | (go_at_call 47; refine (HJ.out _ hlow.out).mono ?_; rintro e w1 ⟨rfl, hb1⟩; have HB1 : Hid (Below w.heap.size w w1) := hlow.out.trans (hb1.mono (by simp)); have hbx := hb.below hb1; have HBX : Hid (TBox w1 w.heap.size (nm, sy) ta (lenF F) tc) := hbx; have c0 := hbx.c0; have c1 := hbx.c1; have c2 := hbx.c2; clear hb1 hbx)
            | (go_at_call 69; refine (HU.out _ HB1.out).mono ?_; rintro e w9 ⟨he, hw9⟩; unfold UnitRet at he; rw [hui, huo] at he; subst he; rw [hw9]; clear hw9)
            | (go_at_call 84; refine (HK.out _ HB1.out).mono ?_; rintro e w2 ⟨v, ks, rfl, ho2, hn2, hm2, hb2⟩; have HO2 : Hid (Lst w.heap.size w2 v ks) := ho2.base HB1.out.size; have HN2 : Hid (ks = [] → v = .slice none 0 0) := hn2; have HM2 : Hid (ks.map Kv.tn = kidsL F) := hm2; have HB2 : Hid (Below w.heap.size w w2) := HB1.out.trans (hb2.mono HB1.out.size); clear ho2 hn2 hm2 hb2))
          go_ret
          refine ⟨v, ks, rfl, HO2.out, HN2.out, by rw [HM2.out, e.out], HB2.out⟩
    · have hcc : Hid (isUn (sgOf l) f ((nm, sy), F) = isConst ((nm, sy), F) ui) := by
        show _ = _
        rw [← hui]
        unfold unitOk at huo
        cases hq : unitAt l f with
        | none => rw [hq] at huo; simp at huo
        | some i => simp [isUn, sgOf, unitI, hq]
      cases hcu : isConst ((nm, sy), F) ui
      · have hun : Hid (isUn (sgOf l) f ((nm, sy), F) = false) := by show _ = _; rw [hcc.out, hcu]
        cases hn : nm.toList.isEmpty
        · have e : Hid (partsN (sgOf l) f ((nm, sy), F) = [((nm, sy), F)]) := by show _ = _; rw [REST.out hun.out]; unfold headed noName; rw [hn]; simp
          go_enter Tryz.func68, Tryz.ntmps68
          rw [hj] at HJ
          go_wp2_with (first
            | (go_at_call 47; refine (HJ.out _ hlow.out).mono ?_; rintro e w1 ⟨rfl, hb1⟩; have HB1 : Hid (Below w.heap.size w w1) := hlow.out.trans (hb1.mono (by simp)); have hbx := hb.below hb1; have HBX : Hid (TBox w1 w.heap.size (nm, sy) ta (lenF F) tc) := hbx; have c0 := hbx.c0; have c1 := hbx.c1; have c2 := hbx.c2; clear hb1 hbx)
            | (go_at_call 69; refine (HU.out _ HB1.out).mono ?_; rintro e w9 ⟨he, hw9⟩; unfold UnitRet at he; rw [hui, huo] at he; subst he; rw [hw9]; clear hw9)
            | (go_at_call 83; refine (HC.out _ _).mono ?_; rintro e w3 ⟨he, hb3⟩; rw [hcu] at he; subst he; have HB3 : Hid (Below w.heap.size w w3) := HB1.out.trans (hb3.mono HB1.out.size); have hby := HBX.out.below hb3; have d0 := hby.c0; have d1 := hby.c1; have d2 := hby.c2; clear hb3 hby)
            | (go_at_call 35; refine (HL.out _ HB3.out).mono ?_; rintro e w2 ⟨a', c', rfl, ho2, hb2⟩; have HO2 : Hid (RowTm w3.heap.size w2 (nm, sy) a' c' F) := ho2; have HB2 : Hid (Below w.heap.size w w2) := HB3.out.trans (hb2.mono HB3.out.size); clear ho2 hb2))
          go_ret
          refine ⟨_, [⟨(nm, sy), F, a', c'⟩], rfl, Lst.one ⟨(nm, sy), F, a', c'⟩ HB2.out.size (HO2.out.own.mono (fun q _ hq => Nat.le_trans HB3.out.size hq)), (fun h => by simp at h), by rw [e.out]; rfl, HB2.out.alloc HB2.out.size _⟩
        · cases hs : (sy == f)
          · have e : Hid (partsN (sgOf l) f ((nm, sy), F) = [((nm, sy), F)]) := by show _ = _; rw [REST.out hun.out]; unfold headed; rw [hs]; simp
            go_enter Tryz.func68, Tryz.ntmps68
            rw [hj] at HJ
            go_wp2_with (first
              | (go_at_call 47; refine (HJ.out _ hlow.out).mono ?_; rintro e w1 ⟨rfl, hb1⟩; have HB1 : Hid (Below w.heap.size w w1) := hlow.out.trans (hb1.mono (by simp)); have hbx := hb.below hb1; have HBX : Hid (TBox w1 w.heap.size (nm, sy) ta (lenF F) tc) := hbx; have c0 := hbx.c0; have c1 := hbx.c1; have c2 := hbx.c2; clear hb1 hbx)
              | (go_at_call 69; refine (HU.out _ HB1.out).mono ?_; rintro e w9 ⟨he, hw9⟩; unfold UnitRet at he; rw [hui, huo] at he; subst he; rw [hw9]; clear hw9)
              | (go_at_call 83; refine (HC.out _ _).mono ?_; rintro e w3 ⟨he, hb3⟩; rw [hcu] at he; subst he; have HB3 : Hid (Below w.heap.size w w3) := HB1.out.trans (hb3.mono HB1.out.size); have hby := HBX.out.below hb3; have d0 := hby.c0; have d1 := hby.c1; have d2 := hby.c2; clear hb3 hby)
              | (go_at_call 35; refine (HL.out _ HB3.out).mono ?_; rintro e w2 ⟨a', c', rfl, ho2, hb2⟩; have HO2 : Hid (RowTm w3.heap.size w2 (nm, sy) a' c' F) := ho2; have HB2 : Hid (Below w.heap.size w w2) := HB3.out.trans (hb2.mono HB3.out.size); clear ho2 hb2))
            go_ret
            refine ⟨_, [⟨(nm, sy), F, a', c'⟩], rfl, Lst.one ⟨(nm, sy), F, a', c'⟩ HB2.out.size (HO2.out.own.mono (fun q _ hq => Nat.le_trans HB3.out.size hq)), (fun h => by simp at h), by rw [e.out]; rfl, HB2.out.alloc HB2.out.size _⟩
          · have e : Hid (partsN (sgOf l) f ((nm, sy), F) = kidsL F) := by show _ = _; rw [REST.out hun.out]; unfold headed noName; rw [hn, hs]; simp
            go_enter Tryz.func68, Tryz.ntmps68
            rw [hj] at HJ
            go_wp2_with (first
              | (go_at_call 47; refine (HJ.out _ hlow.out).mono ?_; rintro e w1 ⟨rfl, hb1⟩; have HB1 : Hid (Below w.heap.size w w1) := hlow.out.trans (hb1.mono (by simp)); have hbx := hb.below hb1; have HBX : Hid (TBox w1 w.heap.size (nm, sy) ta (lenF F) tc) := hbx; have c0 := hbx.c0; have c1 := hbx.c1; have c2 := hbx.c2; clear hb1 hbx)
              | (go_at_call 69; refine (HU.out _ HB1.out).mono ?_; rintro e w9 ⟨he, hw9⟩; unfold UnitRet at he; rw [hui, huo] at he; subst he; rw [hw9]; clear hw9)
              | (go_at_call 83; refine (HC.out _ _).mono ?_; rintro e w3 ⟨he, hb3⟩; rw [hcu] at he; subst he; have HB3 : Hid (Below w.heap.size w w3) := HB1.out.trans (hb3.mono HB1.out.size); have hby := HBX.out.below hb3; have d0 := hby.c0; have d1 := hby.c1; have d2 := hby.c2; clear hb3 hby)
              | (go_at_call 84; refine (HK.out _ HB3.out).mono ?_; rintro e w2 ⟨v, ks, rfl, ho2, hn2, hm2, hb2⟩; have HO2 : Hid (Lst w.heap.size w2 v ks) := ho2.base HB3.out.size; have HN2 : Hid (ks = [] → v = .slice none 0 0) := hn2; have HM2 : Hid (ks.map Kv.tn = kidsL F) := hm2; have HB2 : Hid (Below w.heap.size w w2) := HB3.out.trans (hb2.mono HB3.out.size); clear ho2 hn2 hm2 hb2))
            go_ret
            refine ⟨v, ks, rfl, HO2.out, HN2.out, by rw [HM2.out, e.out], HB2.out⟩
      · have e : Hid (partsN (sgOf l) f ((nm, sy), F) = []) := NONE.out (by rw [hcc.out, hcu])
        go_enter Tryz.func68, Tryz.ntmps68
        rw [hj] at HJ
        go_wp2_with (first
          | (go_at_call 47; refine (HJ.out _ hlow.out).mono ?_; rintro e w1 ⟨rfl, hb1⟩; have HB1 : Hid (Below w.heap.size w w1) := hlow.out.trans (hb1.mono (by simp)); have hbx := hb.below hb1; have HBX : Hid (TBox w1 w.heap.size (nm, sy) ta (lenF F) tc) := hbx; have c0 := hbx.c0; have c1 := hbx.c1; have c2 := hbx.c2; clear hb1 hbx)
          | (go_at_call 69; refine (HU.out _ HB1.out).mono ?_; rintro e w9 ⟨he, hw9⟩; unfold UnitRet at he; rw [hui, huo] at he; subst he; rw [hw9]; clear hw9)
          | (go_at_call 83; refine (HC.out _ _).mono ?_; rintro e w3 ⟨he, hb3⟩; rw [hcu] at he; subst he; have HB3 : Hid (Below w.heap.size w w3) := HB1.out.trans (hb3.mono HB1.out.size); have hby := HBX.out.below hb3; have d0 := hby.c0; have d1 := hby.c1; have d2 := hby.c2; clear hb3 hby))
        go_ret
        exact ⟨_, [], rfl, Lst.nil _ _, fun _ => rfl, by rw [e.out]; rfl, HB3.out⟩
end Go.Proofs.YtgcnjpiiofjljaaGreatDoor
/- What the document's Join and Canon answer, of any terms. -/
namespace Go.Proofs.YtgcnjpiiofjljaaGreatDoor
open Go.RowKit Go.Deep

set_option maxRecDepth 100000 in
/-- A list that is done, as a term's. -/
theorem Lst.term {B : Nat} {W : World} {v : Value} {ks : List Kv} {F : Fo} (x : ByteArray × Int) (h : Lst B W v ks) (hk : ks.map Kv.tn = kidsL F) (hx : x.1.size ≤ maxLen) (hf : lenF F * 48 ≤ 140737488351232) :
    ∃ a c, v = .slice a (lenF F) c ∧ OwnTm false (fun q => B ≤ q) W x a c F := by
  have hl : ks.length = lenF F := by have := congrArg List.length hk; rwa [List.length_map, kids_len] at this
  rcases h.row.2 with ⟨hv, h0⟩ | ⟨g, cap, cur, hv, hb, hg, hnc, hcm, hsz, hcur⟩
  · refine ⟨none, 0, by rw [← hl, h0]; exact hv, ⟨⟨hx, by omega, by simp, hf⟩, .inl ⟨len_nil (by omega), rfl⟩⟩⟩
  · have hrow := h.row
    rw [hv] at hrow
    refine ⟨_, cap, by rw [← hl]; exact hv, ⟨⟨hx, by omega, hcm, hf⟩, .inr ⟨g, cur, rfl, hb, hg, (fun e => by cases e), ownKids_of F ks 0 hk (owns_at hrow) (fun k hk => (h.own k hk).mono (fun q _ hq => hq.1))⟩⟩⟩
set_option maxRecDepth 100000 in
/-- What comes out of Parts: nil, or some. -/
theorem Lst.shape {B : Nat} {W : World} {v : Value} {ms : List Kv} (h : Lst B W v ms) (hn : ms = [] → v = .slice none 0 0) : ∃ a c, v = .slice a ms.length c ∧ RowAt W a ms.length ms ∧ (a = none → c = 0) ∧ (a ≠ none → 0 < ms.length) := by
  obtain ⟨a, c, rfl, _, _, h3, h4, _⟩ := row_of_owns h.row
  refine ⟨a, c, rfl, h3, fun e => (h4 e).2, fun e => ?_⟩
  cases ms with
  | nil => cases hn rfl; exact absurd rfl e
  | cons k r => simp
set_option maxRecDepth 100000 in
/-- What Sorted makes of a list. -/
theorem Lst.sorted {B : Nat} {W W' : World} {v v' : Value} {ks out : List Kv} (h : Lst B W v ks) (hB : B ≤ W.heap.size) (hb : Below W.heap.size W W') (ho : W'.ownsRow W.heap.size 27 3 v' out.length (kvCells out)) (hin : ∀ k ∈ out, k ∈ ks) : Lst B W' v' out := by
  refine ⟨owns_base ho hB, fun k hk => ?_⟩
  have h2 : OwnTm false (fun q => B ≤ q ∧ some q ≠ v'.ownBlock) W k.x k.a k.c k.l := (h.own k (hin k hk)).mono (fun q hq hp => ⟨hp.1, fun e => by have := (owns_cells ho e.symm).1; omega⟩)
  exact h2.below hb
def zeroT : Tn := ((noB, 0), .nil)
/-- One term, in new memory. -/
def JoinRet (B : Nat) (W : World) (r : Option Tn) (e : Ending) : Prop :=
  ∃ a c, e = .returned (.tuple #[.agg #[.string (r.getD zeroT).1.1, .int .i64 (r.getD zeroT).1.2, .slice a (lenF (r.getD zeroT).2) c], .bool r.isSome]) ∧ OwnTm false (fun q => B ≤ q) W (r.getD zeroT).1 a c (r.getD zeroT).2
def CanonOk (S : Option Addr) (n cap : Nat) (l : List Sym) (k : Nat) : Prop := ∀ (t : Tn) (a : Option Addr) (c : Nat) (w : World), nodesF t.2 ≤ k → SigAt w S n l → TmAt w t.1 a c t.2 →
  Calls Tryz.prog 28 #[.slice S n cap, .agg #[.string t.1.1, .int .i64 t.1.2, .slice a (lenF t.2) c]] w fun e w' => ∃ a' c', e = .returned (.agg #[.string (canonT (sgOf l) t).1.1, .int .i64 (canonT (sgOf l) t).1.2, .slice a' (lenF (canonT (sgOf l) t).2) c']) ∧ OwnTm false (fun q => w.heap.size ≤ q) w' (canonT (sgOf l) t).1 a' c' (canonT (sgOf l) t).2 ∧ Below w.heap.size w w'
def JoinOk (S : Option Addr) (n cap : Nat) (l : List Sym) (k : Nat) : Prop := ∀ (f : Int) (F : Fo) (a : Option Addr) (c : Nat) (w : World), nodesF F ≤ k → SigAt w S n l → ArgsAt w a F →
  Calls Tryz.prog 48 #[.slice S n cap, .int .i64 f, .slice a (lenF F) c] w fun e w' => JoinRet w.heap.size w' (joinN (sgOf l) f (canonL (sgOf l) F)) e ∧ Below w.heap.size w w'

set_option maxRecDepth 100000 in
theorem sizes_len : ∀ l : List Tn, l.length ≤ sizes l
  | [] => Nat.le_refl _
  | t :: r => by rw [sizes_cons, List.length_cons]; have := sizes_len r; unfold sizeT; omega
set_option maxRecDepth 100000 in
theorem sizes_take (l : List Tn) (j : Nat) : sizes (l.take j) ≤ sizes l := by
  have := sizes_append (l.take j) (l.drop j)
  rw [List.take_append_drop] at this
  omega
set_option maxRecDepth 100000 in
/-- How many parts there are, at most. -/
theorem flat_few (S : Sg) (f : Int) (F : Fo) (j : Nat) : (((canonL S F).take j).flatMap (partsN S f)).length ≤ nodesF F :=
  Nat.le_trans (sizes_len _) (Nat.le_trans (flat_size S f _) (Nat.le_trans (sizes_take _ j) (canonL_size S F)))
set_option maxRecDepth 100000 in
theorem canonL_take {S : Sg} {F : Fo} {k : Nat} {x : ByteArray × Int} {m : Fo} {B O : Nat} {r : Fo} (h : dropF k F = .node B O x m r) : (canonL S F).take (k + 1) = (canonL S F).take k ++ [canonT S (x, m)] := by
  rw [canonL_map, ← List.map_take, ← List.map_take, kids_take h]
  simp
set_option maxRecDepth 100000 in
/-- The answer, in the box that is the function's. -/
theorem ret_join {fn : Func} {R : Ending → World → Prop} {a : Act} {w : World} {p u B : Nat} {x : ByteArray × Int} {v : Value} (h : fn.results = #[.cell p 27, .tmp u]) (hp : a.tmps.getD p undef = .pointer (some ⟨B, 0, none⟩))
    (hx : XBox w B x v) (hd : a.defers = []) (hR : R (.returned (.tuple #[.agg #[.string x.1, .int .i64 x.2, v], a.tmps.getD u undef])) w) : bodyPost Tryz.prog fn R .ret a w := by
  refine bodyPost_ret ?_ hd hR
  rw [results_cell_tmp h, hp]
  rw [show (asAddr (.pointer (some ⟨B, 0, none⟩))).run Tryz.prog w = .ok ⟨B, 0, none⟩ w from rfl]
  simp only [Result.andThen_ok, run_loadVar_row w B 27 27 _ (0, 0) _ hx Tryz.underlying27 rfl Tryz.size27]
set_option maxRecDepth 100000 in
theorem own_nil {P : Nat → Prop} (W : World) (x : ByteArray × Int) (hx : x.1.size ≤ maxLen) : OwnTm false P W x none 0 .nil := ⟨⟨hx, Nat.le_refl _, by simp, by simp [lenF]⟩, .inl ⟨rfl, rfl⟩⟩
set_option maxRecDepth 100000 in
theorem OwnTm.sets {W : World} {B : Nat} {x : ByteArray × Int} {a : Option Addr} {c : Nat} {F : Fo} (h : OwnTm false (fun q => B + 1 ≤ q) W x a c F) (u v t : Value) : OwnTm false (fun q => B ≤ q) (((W.setCell ⟨B, 0, none⟩ u).setCell ⟨B, 1, none⟩ v).setCell ⟨B, 2, none⟩ t) x a c F :=
  (h.keep (fun q hq _ => sets_far (by omega) _ _ _)).mono (fun q _ hq => by omega)

set_option maxRecDepth 100000 in
set_option maxHeartbeats 2000000 in
theorem join_of {S : Option Addr} {n cap : Nat} {l : List Sym} {k : Nat} (hk : k ≤ 1048576) (ih : ∀ j, j < k → CanonOk S n cap l j) : JoinOk S n cap l k := by
  intro f F a c w hF hS hA
  have HS : Hid (SigAt w S n l) := hS
  have HA : Hid (ArgsAt w a F) := hA
  have IH : Hid (∀ j, j < k → CanonOk S n cap l j) := ih
  have HJ : Hid (∀ W, Below w.heap.size w W → Calls Tryz.prog 47 #[.slice S n cap, .int .i64 f] W fun e w' => e = .returned (.bool (joinsAt l f)) ∧ Below W.heap.size W w') := fun W hW => joins_any S n cap l f W (HS.out.below hW)
  have HU : Hid (∀ W, Below w.heap.size w W → Calls Tryz.prog 69 #[.slice S n cap, .int .i64 f] W fun e w' => UnitRet l f e ∧ w' = W) := fun W hW => runit_any S n cap l f W (HS.out.below hW)
  have HX0 : Hid (XBox (w.alloc (.cells #[.string ⟨#[]⟩, .int .i64 0, .slice none 0 0] 27)) w.heap.size (⟨#[]⟩, 0) (.slice none 0 0)) := World.alloc_heap_new w _
  have HB0 : Hid (Below w.heap.size w (w.alloc (.cells #[.string ⟨#[]⟩, .int .i64 0, .slice none 0 0] 27))) := (Below.refl _ w).alloc (Nat.le_refl _) _
  have hlF : lenF F ≤ 1048576 := Nat.le_trans (len_nodes F) (Nat.le_trans hF hk)
  clear hS hA ih
  cases hj : joinsAt l f
  · have e : Hid (joinN (sgOf l) f (canonL (sgOf l) F) = none) := by show _ = _; unfold joinN; rw [if_pos (show (sgOf l).joins f = false from hj)]
    rw [hj] at HJ
    go_enter Tryz.func48, Tryz.ntmps48
    go_wp2_with (first
      | (go_at_call 47; refine (HJ.out _ HB0.out).mono ?_; rintro e w1 ⟨rfl, hb1⟩; have HB1 : Hid (Below w.heap.size w w1) := HB0.out.trans (hb1.mono (by simp)); have hbx := HX0.out.below hb1; have HBX : Hid (XBox w1 w.heap.size (⟨#[]⟩, 0) (.slice none 0 0)) := hbx; have r0 := hbx.c0; have r1 := hbx.c1; have r2 := hbx.c2; have f0 := hbx.f (k := 0); have f1 := hbx.f (k := 1); have f2 := hbx.f (k := 2); clear hb1 hbx))
    refine ret_join (p := 6) (u := 7) rfl rfl (HBX.out.all (x := (⟨#[]⟩, 0)) (.slice none 0 0)) rfl ?_
    refine ⟨⟨none, 0, by rw [e.out]; rfl, ?_⟩, sets_below HB1.out (Nat.le_refl _) _ _ _⟩
    rw [e.out]
    exact (own_nil _ _ (by decide)).sets _ _ _
  · have e : Hid (joinN (sgOf l) f (canonL (sgOf l) F) = joinL (sgOf l) f ((canonL (sgOf l) F).flatMap (partsN (sgOf l) f))) := by show _ = _; unfold joinN; rw [if_neg (show ¬ (sgOf l).joins f = false by show ¬ joinsAt l f = false; rw [hj]; simp)]
    rw [hj] at HJ
    go_enter Tryz.func48, Tryz.ntmps48
    go_wp2_with (first
      | (go_at_call 47; refine (HJ.out _ HB0.out).mono ?_; rintro e w1 ⟨rfl, hb1⟩; have HB1 : Hid (Below w.heap.size w w1) := HB0.out.trans (hb1.mono (by simp)); have HX1 : Hid (XBox w1 w.heap.size (⟨#[]⟩, 0) (.slice none 0 0)) := HX0.out.below hb1; clear hb1))
    go_loopw [8, 9] (fun ov i wr => ∃ (j : Nat) (v : Value) (ks : List Kv), j ≤ lenF F ∧ v = ov ∧ i = .int .i64 j ∧ Lst (w.heap.size + 1) wr v ks ∧ XBox wr w.heap.size (⟨#[]⟩, 0) (.slice none 0 0) ∧ ks.map Kv.tn = ((canonL (sgOf l) F).take j).flatMap (partsN (sgOf l) f) ∧ Below w.heap.size w wr) (fun _ i _ => lenF F - (intOf i).toNat)
    case atStart => exact ⟨0, _, [], Nat.zero_le _, rfl, rfl, Lst.nil _ _, HX1.out, by simp, HB1.out⟩
    case round =>
      obtain ⟨j, v, ks, hj, rfl, rfl, hL, hX, hmap, hlow⟩ := hrel
      have HL : Hid (Lst (w.heap.size + 1) wr v ks) := hL
      have HX : Hid (XBox wr w.heap.size (⟨#[]⟩, 0) (.slice none 0 0)) := hX
      have HM : Hid (ks.map Kv.tn = ((canonL (sgOf l) F).take j).flatMap (partsN (sgOf l) f)) := hmap
      have HB : Hid (Below w.heap.size w wr) := hlow
      have hxl : w.heap.size + 1 ≤ wr.heap.size := hX.lt
      clear hL hX hmap hlow
      by_cases hlt : j < lenF F
      · obtain ⟨bb, oo, rfl, hkk⟩ := HA.out.get (by omega)
        obtain ⟨y, a1, c1, l1, kd⟩ := hkk.kid (k := j) hlt
        have kd' := kd.below HB.out
        have p0 := kd'.name; have p1 := kd'.sym; have p2 := kd'.list
        have KD : Hid (Kid wr F bb oo j y a1 c1 l1) := kd'
        have hj0 : (0 : Int) ≤ (j : Int) := by omega
        have hjn : (j : Int) < (lenF F : Int) := by omega
        clear kd kd' hkk
        obtain ⟨ct, hct⟩ : ∃ ct, canonT (sgOf l) (y, l1) = ct := ⟨_, rfl⟩
        have HC : Hid (∀ W, Below wr.heap.size wr W → Calls Tryz.prog 28 #[.slice S n cap, .agg #[.string y.1, .int .i64 y.2, .slice a1 (lenF l1) c1]] W fun e w' => ∃ a' c', e = .returned (.agg #[.string ct.1.1, .int .i64 ct.1.2, .slice a' (lenF ct.2) c']) ∧ OwnTm false (fun q => W.heap.size ≤ q) w' ct.1 a' c' ct.2 ∧ Below W.heap.size W w') := fun W hW => by
          have := IH.out (nodesF l1) (by have := KD.out.less; omega) (y, l1) a1 c1 W (Nat.le_refl _) ((HS.out.below HB.out).below hW) (KD.out.at_.below hW)
          rw [hct] at this
          exact this
        have HCT : Hid (canonT (sgOf l) (y, l1) = ct) := hct
        clear hct
        go_wp2_with (first
          | (go_at_call 28; refine (HC.out _ (Below.refl _ _)).mono ?_; rintro e w2 ⟨a', c', rfl, ho2, hb2⟩; have HO2 : Hid (OwnTm false (fun q => wr.heap.size ≤ q) w2 ct.1 a' c' ct.2) := ho2; have HB2 : Hid (Below wr.heap.size wr w2) := hb2; clear ho2 hb2)
          | (go_at_call 68; refine (parts_any S n cap l f ct a' c' w2 ((HS.out.below HB.out).below HB2.out) HO2.out.tm).mono ?_; rintro e w3 ⟨v3, ms, rfl, ho3, hn3, hm3, hb3⟩; obtain ⟨a3, c3, rfl, hr3, hnil3, hsome3⟩ := ho3.shape hn3; have HO3 : Hid (∀ q ∈ ms, OwnTm false (fun q => wr.heap.size ≤ q) w3 q.x q.a q.c q.l) := fun q hq => (ho3.own q hq).mono (fun b _ hb => Nat.le_trans HB2.out.size hb.1); have HB3 : Hid (Below wr.heap.size wr w3) := HB2.out.trans (hb3.mono HB2.out.size); have HM3 : Hid (ms.map Kv.tn = partsN (sgOf l) f ct) := hm3; have HR3 : Hid (RowAt w3 a3 ms.length ms) := hr3; have HN3 : Hid ((a3 = none → c3 = 0) ∧ (a3 ≠ none → 0 < ms.length)) := ⟨hnil3, hsome3⟩; have HMM : Hid ((ks ++ ms).map Kv.tn = ((canonL (sgOf l) F).take (j + 1)).flatMap (partsN (sgOf l) f)) := (by show _ = _; obtain ⟨B1, O1, sp⟩ := KD.out.split; rw [canonL_take sp, List.flatMap_append, ← HM.out, HCT.out, List.map_append, hm3]; simp); have hfew : ks.length + ms.length ≤ 1048576 := (by have h1 := flat_few (sgOf l) f F (j + 1); rw [← HMM.out, List.length_map, List.length_append] at h1; omega); clear ho3 hn3 hm3 hb3 hr3 hnil3 hsome3)
          | (at_builtin; refine wpList_append_lst rfl _ _ rfl (w.heap.size + 1) v ks rfl (owns_below HL.out.row HB3.out) a3 ms.length c3 ms rfl HR3.out HN3.out.1 HN3.out.2 (by omega) (by have := HB3.out.size; omega) ?_; intro v4 w4 hown4 hgrow4 hat4; have HL4 : Hid (Lst (w.heap.size + 1) w4 v4 (ks ++ ms)) := HL.out.grow HB3.out HO3.out hxl hgrow4 hat4 hown4; have HX4 : Hid (XBox w4 w.heap.size (⟨#[]⟩, 0) (.slice none 0 0)) := (HX.out.below HB3.out).kept hgrow4 (fun e => by have := (owns_cells HL.out.row e.symm).1; omega); have HB4 : Hid (Below w.heap.size w w4) := HB.out.trans ((HB3.out.mono HB.out.size).grown hgrow4 (by have := HB3.out.size; omega) (fun k e => by have := (owns_cells HL.out.row e).1; omega)); clear hown4 hgrow4 hat4))
        go_roundw
        case rel => exact ⟨j + 1, v4, ks ++ ms, by omega, rfl, by go_num, HL4.out, HX4.out, HMM.out, HB4.out⟩
        case measure => simp [intOf]; omega
      · obtain rfl : j = lenF F := by omega
        have HM' : Hid (ks.map Kv.tn = (canonL (sgOf l) F).flatMap (partsN (sgOf l) f)) := by
          have := HM.out
          rwa [List.take_of_length_le (by rw [canonL_map, List.length_map, kids_len]; exact Nat.le_refl _)] at this
        have hfew : ks.length ≤ 1048576 := by
          have h1 := flat_few (sgOf l) f F (lenF F)
          rw [← HM.out, List.length_map] at h1
          omega
        obtain ⟨oa, ocap, rfl, hoc, hocm, hot, honil, hosome⟩ := row_of_owns HL.out.row
        have HOT : Hid (RowAt wr oa ks.length ks) := hot
        have hbx := HX.out
        have r0 := hbx.c0; have r1 := hbx.c1; have r2 := hbx.c2; have f0 := hbx.f (k := 0); have f1 := hbx.f (k := 1); have f2 := hbx.f (k := 2)
        clear hbx hot HM
        rcases ks with _ | ⟨k1, _ | ⟨k2, r⟩⟩
        · cases huo : unitOk l f
          · have e2 : Hid (joinN (sgOf l) f (canonL (sgOf l) F) = none) := by
              show _ = _
              rw [e.out, ← HM'.out]
              unfold unitOk at huo
              show ((unitAt l f).map _).map constT = none
              cases hq : unitAt l f with
              | none => rfl
              | some i => rw [hq] at huo; simp at huo
            have HO : Hid (unitOk l f = false) := huo
            obtain ⟨ui, hui⟩ : ∃ ui, unitI l f = ui := ⟨_, rfl⟩
            have HI : Hid (unitI l f = ui) := hui
            clear huo hui
            go_wp2_with (first
              | (go_at_call 69; refine (HU.out _ HB.out).mono ?_; rintro e w9 ⟨he, hw9⟩; unfold UnitRet at he; rw [HI.out, HO.out] at he; subst he; rw [hw9]; clear hw9))
            refine ret_join (p := 6) (u := 7) rfl rfl (HX.out.all (x := (⟨#[]⟩, 0)) (.slice none 0 0)) rfl ?_
            refine ⟨⟨none, 0, by rw [e2.out]; rfl, ?_⟩, sets_below HB.out (Nat.le_refl _) _ _ _⟩
            rw [e2.out]
            exact (own_nil _ _ (by decide)).sets _ _ _
          · have HO : Hid (unitOk l f = true) := huo
            obtain ⟨ui, hui⟩ : ∃ ui, unitI l f = ui := ⟨_, rfl⟩
            have e2 : Hid (joinN (sgOf l) f (canonL (sgOf l) F) = some (constT ui)) := by
              show _ = _
              rw [e.out, ← HM'.out, ← hui]
              unfold unitOk at huo
              show ((unitAt l f).map _).map constT = _
              cases hq : unitAt l f with
              | none => rw [hq] at huo; simp at huo
              | some i => simp [unitI, hq]
            have HI : Hid (unitI l f = ui) := hui
            clear huo hui
            go_wp2_with (first
              | (go_at_call 69; refine (HU.out _ HB.out).mono ?_; rintro e w9 ⟨he, hw9⟩; unfold UnitRet at he; rw [HI.out, HO.out] at he; subst he; rw [hw9]; clear hw9))
            refine ret_join (p := 6) (u := 7) rfl rfl (HX.out.all (x := (⟨#[]⟩, ui)) (.slice none 0 0)) rfl ?_
            refine ⟨⟨none, 0, by rw [e2.out]; rfl, ?_⟩, sets_below HB.out (Nat.le_refl _) _ _ _⟩
            rw [e2.out]
            exact (own_nil _ _ (show noB.size ≤ maxLen by decide)).sets _ _ _
        · have e2 : Hid (joinN (sgOf l) f (canonL (sgOf l) F) = some (k1.x, k1.l)) := by show _ = _; rw [e.out, ← HM'.out]; rfl
          have HO1 : Hid (OwnTm false (fun q => w.heap.size + 1 ≤ q) wr k1.x k1.a k1.c k1.l) := (HL.out.own k1 (by simp)).mono (fun q _ hq => hq.1)
          obtain ⟨b, off, rfl, s0, s1, s2⟩ := HOT.out.get (j := 0) (k := k1) rfl
          obtain ⟨_, rfl, _⟩ := hosome _ _ _ rfl
          simp only [Nat.zero_mul, Nat.zero_add, Nat.add_zero] at s0 s1 s2
          clear honil hosome
          go_wp2
          refine ret_join (p := 6) (u := 7) rfl rfl (HX.out.all (x := k1.x) (.slice k1.a (lenF k1.l) k1.c)) rfl ?_
          refine ⟨⟨k1.a, k1.c, by rw [e2.out]; rfl, ?_⟩, sets_below HB.out (Nat.le_refl _) _ _ _⟩
          rw [e2.out]
          exact HO1.out.sets _ _ _
        · have e2 : Hid (joinN (sgOf l) f (canonL (sgOf l) F) = some ((noB, f), mkF (sortN ((k1 :: k2 :: r).map Kv.tn)))) := by show _ = _; rw [e.out, ← HM'.out]; rfl
          obtain ⟨ks, hks⟩ : ∃ ks, k1 :: k2 :: r = ks := ⟨_, rfl⟩
          have hlen : ks.length = r.length + 2 := by rw [← hks]; rfl
          clear honil hosome
          rw [hks] at e2 HM' hfew HL hoc HOT ⊢
          have HSo := sorted_any oa ks.length ocap ks wr HOT.out (fun q hq => (HL.out.own q hq).tm) (by omega)
          have HSO : Hid (Calls Tryz.prog 70 #[.slice oa ks.length ocap] wr fun e w' => ∃ v out, e = .returned v ∧ w'.ownsRow wr.heap.size 27 3 v out.length (kvCells out) ∧ (∀ k ∈ out, k ∈ ks) ∧ out.map Kv.tn = sortN (ks.map Kv.tn) ∧ Below wr.heap.size wr w') := HSo
          clear HSo hks
          obtain ⟨m, hm⟩ : ∃ m, ks.length = m := ⟨_, rfl⟩
          rw [hm] at HSO hfew hlen hoc ⊢
          have hm1 : ((m : Int) == 1) = false := by simp; omega
          have hm0 : ((m : Int) == 0) = false := by simp; omega
          clear hlen
          have HMm : Hid (ks.length = m) := hm
          clear hm
          go_wp2_with (first
            | (go_at_call 70; refine HSO.out.mono ?_; rintro e w5 ⟨v5, out, rfl, ho5, hi5, hm5, hb5⟩; have hl5 := HL.out.sorted hxl hb5 ho5 hi5; obtain ⟨a5, c5, rfl, hown5⟩ := hl5.term (F := mkF (sortN (ks.map Kv.tn))) (noB, f) (by rw [hm5, kids_mk]) (show noB.size ≤ maxLen by decide) (by rw [len_mk, sortN_len, List.length_map, HMm.out]; omega); have HO5 : Hid (OwnTm false (fun q => w.heap.size + 1 ≤ q) w5 (noB, f) a5 c5 (mkF (sortN (ks.map Kv.tn)))) := hown5; have HX5 : Hid (XBox w5 w.heap.size (⟨#[]⟩, 0) (.slice none 0 0)) := HX.out.below hb5; have HB5 : Hid (Below w.heap.size w w5) := HB.out.trans (hb5.mono HB.out.size); clear r0 r1 r2 f0 f1 f2; have r0 := HX5.out.c0; have r1 := HX5.out.c1; have r2 := HX5.out.c2; have f0 := HX5.out.f (k := 0); have f1 := HX5.out.f (k := 1); have f2 := HX5.out.f (k := 2); clear ho5 hi5 hm5 hb5 hl5 hown5))
          refine ret_join (p := 6) (u := 7) rfl rfl (HX5.out.all (x := (⟨#[]⟩, f)) (.slice a5 (lenF (mkF (sortN (ks.map Kv.tn)))) c5)) rfl ?_
          refine ⟨⟨a5, c5, by rw [e2.out]; rfl, ?_⟩, sets_below HB5.out (Nat.le_refl _) _ _ _⟩
          rw [e2.out]
          exact HO5.out.sets _ _ _
end Go.Proofs.YtgcnjpiiofjljaaGreatDoor
/- What the document's Canon answers, of any term. -/
namespace Go.Proofs.YtgcnjpiiofjljaaGreatDoor
open Go.RowKit Go.Deep

set_option maxRecDepth 100000 in
set_option maxHeartbeats 2000000 in
theorem canon_of {S : Option Addr} {n cap : Nat} {l : List Sym} {k : Nat} (ih : ∀ j, j < k → CanonOk S n cap l j) (hJ : JoinOk S n cap l k) : CanonOk S n cap l k := by
  rintro ⟨⟨nm, sy⟩, F⟩ a c w hF hS hT
  have HS : Hid (SigAt w S n l) := hS
  have HT : Hid (TmAt w (nm, sy) a c F) := hT
  have IH : Hid (∀ j, j < k → CanonOk S n cap l j) := ih
  have HJ : Hid (∀ W, Below w.heap.size w W → Calls Tryz.prog 47 #[.slice S n cap, .int .i64 sy] W fun e w' => e = .returned (.bool (joinsAt l sy)) ∧ w' = W) := fun W hW => joins_still S n cap l sy W (HS.out.below hW)
  have HJo : Hid (∀ W, Below w.heap.size w W → Calls Tryz.prog 48 #[.slice S n cap, .int .i64 sy, .slice a (lenF F) c] W fun e w' => JoinRet W.heap.size w' (joinN (sgOf l) sy (canonL (sgOf l) F)) e ∧ Below W.heap.size W w') := fun W hW => hJ sy F a c W hF (HS.out.below hW) (HT.out.args.below hW)
  have HB0 : Hid (Below w.heap.size w ((w.alloc (.cells #[.string nm, .int .i64 sy, .slice a (lenF F) c] 27)).alloc (.cells #[.string ⟨#[]⟩, .int .i64 0, .slice none 0 0] 27))) := ((Below.refl _ w).alloc (Nat.le_refl _) _).alloc (by simp) _
  have hfew := HT.out.sizes.few
  have hnm := HT.out.sizes.name
  clear hS hT ih hJ
  cases hn : nm.toList.isEmpty
  · have e : Hid (canonT (sgOf l) ((nm, sy), F) = ((nm, 0), .nil)) := by show _ = _; unfold canonT canon1; rw [if_pos (show noName ((nm, sy), F).1.1 = false from hn)]
    have HBn : Hid (Below w.heap.size w ((w.alloc (.cells #[.string nm, .int .i64 sy, .slice a (lenF F) c] 27)).alloc (.cells #[.string nm, .int .i64 0, .slice none 0 0] 27))) := ((Below.refl _ w).alloc (Nat.le_refl _) _).alloc (by simp) _
    go_enter Tryz.func28, Tryz.ntmps28
    go_wp2
    refine bodyPost_ret (results_cell_row rfl _ _ (w.heap.size + 1) 27 #[.string nm, .int .i64 0, .slice none 0 0] (0, 0) _ rfl (heap_alloc2_new w _ _) Tryz.underlying27 rfl Tryz.size27) rfl ?_
    refine ⟨none, 0, by rw [e.out]; rfl, ?_, HBn.out⟩
    rw [e.out]
    exact own_nil _ _ hnm
  · have hnb : nm = noB := noName_eq hn
    subst hnb
    have HXt : Hid (TBox ((w.alloc (.cells #[.string noB, .int .i64 sy, .slice a (lenF F) c] 27)).alloc (.cells #[.string ⟨#[]⟩, .int .i64 0, .slice none 0 0] 27)) w.heap.size (noB, sy) a (lenF F) c) := (TBox.new w (noB, sy) a (lenF F) c).below ((Below.refl _ _).alloc (Nat.le_refl _) _)
    have HXr : Hid (XBox ((w.alloc (.cells #[.string noB, .int .i64 sy, .slice a (lenF F) c] 27)).alloc (.cells #[.string ⟨#[]⟩, .int .i64 0, .slice none 0 0] 27)) (w.heap.size + 1) (⟨#[]⟩, 0) (.slice none 0 0)) := heap_alloc2_new w _ _
    cases hj : joinsAt l sy
    · obtain ⟨G, hG⟩ : ∃ G, mkF (canonL (sgOf l) F) = G := ⟨_, rfl⟩
      have e : Hid (canonT (sgOf l) ((noB, sy), F) = ((noB, sy), G)) := by show _ = _; unfold canonT canon1; rw [if_neg (show ¬ noName ((noB, sy), F).1.1 = false by show ¬ noName noB = false; rw [noName_noB]; simp), if_neg (show ¬ (sgOf l).joins ((noB, sy), F).1.2 = true by show ¬ joinsAt l sy = true; rw [hj]; simp), hG]
      have HGk : Hid (kidsL G = canonL (sgOf l) F) := by show _ = _; rw [← hG, kids_mk]
      have hGl : lenF G = lenF F := by rw [← hG, len_mk, canonL_map, List.length_map, kids_len]
      obtain ⟨i0, hi, hz0, hz1, hz2⟩ := info_parts Tryz.info27
      rw [hj] at HJ
      clear hG
      go_enter Tryz.func28, Tryz.ntmps28
      go_wp2_with (first
        | (go_at_call 47; refine (HJ.out _ HB0.out).mono ?_; rintro e w9 ⟨rfl, hw9⟩; rw [hw9]; clear hw9))
      go_loopw [8] (fun i wr => ∃ (j : Nat) (v : Value) (ks : List Kv), j ≤ lenF F ∧ i = .int .i64 j ∧ Three w (noB, sy) a (lenF F) c wr v ∧ Built false w wr v j ks ∧ ks.map (fun k => (k.x, k.l)) = (canonL (sgOf l) F).take j) (fun i _ => lenF F - (intOf i).toNat)
      case atStart => exact ⟨0, _, [], Nat.zero_le _, rfl, Three.new w (noB, sy) a (lenF F) c, ⟨World.ownsRow_nil _ _ _ _, by simp⟩, by simp⟩
      case round =>
        obtain ⟨j, v, ks, hj, rfl, hTh, hBu, hks⟩ := hrel
        have hb := hTh.low
        have bT := hTh.t
        have bX := hTh.x
        have hrow := hBu.row
        have t2 := bT.c2
        have hn : lenF F ≤ 9223372036854775807 := by omega
        by_cases hlt : j < lenF F
        · obtain ⟨bb, oo, rfl, hkk⟩ := HT.out.args.get (by omega)
          obtain ⟨y, a1, c1, l1, kd⟩ := hkk.kid (k := j) hlt
          have kd' := kd.below hb
          have X0 : Hid (XBox wr (w.heap.size + 1 + 1) (noB, sy) v) := bX
          have cX := X0.out.c2
          have hbb : bb < w.heap.size := World.block_lt_of_cell? w _ kd.name
          have p0 := kd'.name; have p1 := kd'.sym; have p2 := kd'.list
          obtain ⟨ct, hct⟩ : ∃ ct, canonT (sgOf l) (y, l1) = ct := ⟨_, rfl⟩
          have hIH := IH.out (nodesF l1) (by have := kd.less; omega) (y, l1) a1 c1 wr.drew (Nat.le_refl _) ((HS.out.below hb).below ((Below.refl _ wr).drew)) (kd'.at_.kept (fun _ _ h => h))
          rw [hct] at hIH
          have HIH : Hid (Calls Tryz.prog 28 #[.slice S n cap, .agg #[.string y.1, .int .i64 y.2, .slice a1 (lenF l1) c1]] wr.drew fun e w' => ∃ a' c', e = .returned (.agg #[.string ct.1.1, .int .i64 ct.1.2, .slice a' (lenF ct.2) c']) ∧ OwnTm false (fun q => wr.heap.size ≤ q) w' ct.1 a' c' ct.2 ∧ Below wr.heap.size wr.drew w') := hIH
          have HCT : Hid (canonT (sgOf l) (y, l1) = ct) := hct
          have HR : Hid (wr.ownsRow (w.heap.size + 3) 27 3 v j (kvCells ks)) := hrow
          have HB : Hid (Below w.heap.size w wr) := hb
          have TH : Hid (Three w (noB, sy) (some ⟨bb, oo, none⟩) (lenF F) c wr v) := hTh
          have BU : Hid (Built false w wr v j ks) := hBu
          have HK : Hid (ks.map (fun k => (k.x, k.l)) = (canonL (sgOf l) F).take j) := hks
          have KD : Hid (Kid w F bb oo j y a1 c1 l1) := kd
          have hmax : maxLen = 9223372036854775807 := rfl
          have hXlt : w.heap.size + 1 + 1 < wr.heap.size := X0.out.lt
          clear hIH kd' hkk kd hrow hb hTh hBu hks bT bX hct
          go_wp2_with fail
          go_region_law
            ((first
              | (refine step_append_lies _ (by rfl) _ _ 25 (by rfl) (w.heap.size + 3) 27 i0 _ 3 48 Tryz.underlying25 hi hz0 hz1 hz2 rfl (by decide) v j (kvCells ks) (by rfl) (owns_below (owns_below HR.out HW1.out) ((Below.refl _ _).alloc (Nat.le_refl _) _)) ⟨w1.heap.size, 0, none⟩ 1 1 (Kv.cells ⟨ct.1, ct.2, a', c'⟩) (by rfl) rfl (World.news_of_block (heap_alloc_new w1 _)) (kv_one _) (by decide) (by omega) (by omega) (by have := HW1.out.size; simp; omega) _ rfl ?_; intro g3 cap3 w3 hown3 hgrow3 hat3 hlt3; have X3 : Hid (XBox w3 (w.heap.size + 1 + 1) (noB, sy) v) := X2.out.kept hgrow3 (fun e => by have := (owns_cells HR.out e.symm).1; omega); have cX3 := X3.out.c2; have fX3 := X3.out.f (k := 2); have HO3 : Hid (w3.ownsRow (w.heap.size + 3) 27 3 (.slice (some ⟨g3, 0, none⟩) (j + 1) cap3) (j + 1) (kvCells ks ++ Kv.cells ⟨ct.1, ct.2, a', c'⟩)) := hown3; have HG3 : Hid ((w1.alloc (.cells #[.string ct.1.1, .int .i64 ct.1.2, .slice a' (lenF ct.2) c'] 27)).grownBy w3 v.ownBlock ∧ (v.ownBlock = some g3 ∨ g3 = w1.heap.size + 1)) := ⟨hgrow3, by simpa using hat3⟩; clear hown3 hgrow3 hat3)
              | (go_simp; go_wp2_with (go_at_call 28; refine HIH.out.mono ?_; rintro e w1 ⟨a', c', rfl, ho1, hb1⟩; have HO1 : Hid (OwnTm false (fun k => wr.heap.size ≤ k) w1 ct.1 a' c' ct.2) := ho1; have HW1 : Hid (Below wr.heap.size wr w1) := ((Below.refl _ wr).drew).trans hb1; have X1 : Hid (XBox w1 (w.heap.size + 1 + 1) (noB, sy) v) := X0.out.below HW1.out; have cX1 := X1.out.c2; have X2 : Hid (XBox (w1.alloc (.cells #[.string ct.1.1, .int .i64 ct.1.2, .slice a' (lenF ct.2) c'] 27)) (w.heap.size + 1 + 1) (noB, sy) v) := X1.out.below ((Below.refl _ _).alloc (Nat.le_refl _) _); have cX2 := X2.out.c2; clear ho1 hb1))
              | fail))
          all_goals
            go_wp2
            go_roundw
            case rel =>
              obtain ⟨h1, h2⟩ := build_step (kv := ⟨ct.1, ct.2, a', c'⟩) TH.out BU.out HW1.out HO1.out HG3.out.1 HG3.out.2 HO3.out
              obtain ⟨B1, O1, sp⟩ := KD.out.split
              exact ⟨j + 1, _, _, by omega, by go_num, h1, h2, by rw [canonL_take sp, ← HK.out, HCT.out]; simp⟩
            case measure => simp [intOf]; omega
        · have hjl : j = lenF F := by omega
          subst hjl
          have hks' : ks.map (fun k => (k.x, k.l)) = kidsL G := by rw [hks, HGk.out, List.take_of_length_le (by rw [canonL_map, List.length_map, kids_len]; exact Nat.le_refl _)]
          have hBu' : Built false w wr v (lenF G) ks := by rw [hGl]; exact hBu
          obtain ⟨a3, c3, rfl, hrt⟩ := built_done (x := (noB, sy)) hBu' hks' hnm (by rw [hGl]; exact hfew)
          have x0 := bX.c0; have x1 := bX.c1; have x2 := bX.c2
          have R4 : XBox wr (w.heap.size + 1) (⟨#[]⟩, 0) (.slice none 0 0) := hTh.r
          have r0 := R4.c0
          have r1 := R4.c1
          have r2 := R4.c2
          have f0 := R4.f (k := 0)
          have f1 := R4.f (k := 1)
          have f2 := R4.f (k := 2)
          have HR4 : Hid (XBox wr (w.heap.size + 1) (⟨#[]⟩, 0) (.slice none 0 0)) := R4
          have HL : Hid (Below w.heap.size w wr) := hb
          have HRT : Hid (RowTm (w.heap.size + 3) wr (noB, sy) a3 c3 G) := hrt
          clear R4 hTh hBu hBu' hks hks' hb bT bX hrow hrt
          go_wp2
          refine bodyPost_ret (results_cell_row rfl _ _ (w.heap.size + 1) 27 #[.string noB, .int .i64 sy, .slice a3 (lenF F) c3] (0, 0) _ rfl (HR4.out.all (x := (noB, sy)) _) Tryz.underlying27 rfl Tryz.size27) rfl ?_
          refine ⟨a3, c3, by rw [e.out, hGl], ?_, sets_below HL.out (by omega) _ _ _⟩
          rw [e.out]
          have h5 : OwnTm false (fun q => w.heap.size + 1 + 1 ≤ q) wr (noB, sy) a3 c3 G := HRT.out.own.mono (fun q _ hq => by omega)
          exact (h5.sets _ _ _).mono (fun q _ hq => by omega)
    · have e : Hid (canonT (sgOf l) ((noB, sy), F) = (joinN (sgOf l) sy (canonL (sgOf l) F)).getD (constT sy)) := by show _ = _; unfold canonT canon1; rw [if_neg (show ¬ noName ((noB, sy), F).1.1 = false by show ¬ noName noB = false; rw [noName_noB]; simp), if_pos (show (sgOf l).joins ((noB, sy), F).1.2 = true from hj)]
      rw [hj] at HJ
      obtain ⟨W0, hW0⟩ : ∃ W0, (w.alloc (.cells #[.string noB, .int .i64 sy, .slice a (lenF F) c] 27)).alloc (.cells #[.string ⟨#[]⟩, .int .i64 0, .slice none 0 0] 27) = W0 := ⟨_, rfl⟩
      rw [hW0] at HB0 HXt HXr
      obtain ⟨r, hr⟩ : ∃ r, joinN (sgOf l) sy (canonL (sgOf l) F) = r := ⟨_, rfl⟩
      rw [hr] at e HJo
      clear hr
      have t0 := HXt.out.c0; have t1 := HXt.out.c1; have t2 := HXt.out.c2
      have hz0 : W0.heap.size = w.heap.size + 1 + 1 := by rw [← hW0]; simp
      cases r with
      | none =>
        go_enter Tryz.func28, Tryz.ntmps28
        go_wp2_with (first
          | (rw [hW0])
          | (go_at_call 47; refine (HJ.out _ HB0.out).mono ?_; rintro e w9 ⟨rfl, hw9⟩; rw [hw9]; clear hw9)
          | (go_at_call 48; refine (HJo.out _ HB0.out).mono ?_; rintro e w2 ⟨⟨a2, c2, rfl, ho2⟩, hb2⟩; have HO2 : Hid (OwnTm false (fun q => w.heap.size + 1 + 1 ≤ q) w2 zeroT.1 a2 c2 zeroT.2) := ho2.mono (fun q _ hq => by rw [hz0] at hq; exact hq); have hba : Below w2.heap.size w2 (w2.alloc (.cells #[.string zeroT.1.1, .int .i64 zeroT.1.2, .slice a2 (lenF zeroT.2) c2] 27)) := (Below.refl _ _).alloc (Nat.le_refl _) _; have HB3 : Hid (Below w.heap.size w (w2.alloc (.cells #[.string zeroT.1.1, .int .i64 zeroT.1.2, .slice a2 (lenF zeroT.2) c2] 27))) := HB0.out.trans ((hb2.trans (hba.mono hb2.size)).mono HB0.out.size); have HO3 : Hid (OwnTm false (fun q => w.heap.size + 1 + 1 ≤ q) (w2.alloc (.cells #[.string zeroT.1.1, .int .i64 zeroT.1.2, .slice a2 (lenF zeroT.2) c2] 27)) zeroT.1 a2 c2 zeroT.2) := HO2.out.below hba; have ht := (HXt.out.below hb2).below hba; have hrr := (HXr.out.below hb2).below hba; have HR3 : Hid (XBox (w2.alloc (.cells #[.string zeroT.1.1, .int .i64 zeroT.1.2, .slice a2 (lenF zeroT.2) c2] 27)) (w.heap.size + 1) (⟨#[]⟩, 0) (.slice none 0 0)) := hrr; have q0 := ht.c0; have q1 := ht.c1; have q2 := ht.c2; have r0 := hrr.c0; have r1 := hrr.c1; have r2 := hrr.c2; have f0 := hrr.f (k := 0); have f1 := hrr.f (k := 1); have f2 := hrr.f (k := 2); clear ht hrr hba ho2 hb2))
        refine bodyPost_ret (results_cell_row rfl _ _ (w.heap.size + 1) 27 #[.string noB, .int .i64 sy, .slice none 0 0] (0, 0) _ rfl (HR3.out.all (x := (noB, sy)) _) Tryz.underlying27 rfl Tryz.size27) rfl ?_
        refine ⟨none, 0, by rw [e.out]; rfl, ?_, sets_below HB3.out (by omega) _ _ _⟩
        rw [e.out]
        exact own_nil _ _ (show noB.size ≤ maxLen by decide)
      | some t =>
        go_enter Tryz.func28, Tryz.ntmps28
        go_wp2_with (first
          | (rw [hW0])
          | (go_at_call 47; refine (HJ.out _ HB0.out).mono ?_; rintro e w9 ⟨rfl, hw9⟩; rw [hw9]; clear hw9)
          | (go_at_call 48; refine (HJo.out _ HB0.out).mono ?_; rintro e w2 ⟨⟨a2, c2, rfl, ho2⟩, hb2⟩; have HO2 : Hid (OwnTm false (fun q => w.heap.size + 1 + 1 ≤ q) w2 t.1 a2 c2 t.2) := ho2.mono (fun q _ hq => by rw [hz0] at hq; exact hq); have hba : Below w2.heap.size w2 (w2.alloc (.cells #[.string t.1.1, .int .i64 t.1.2, .slice a2 (lenF t.2) c2] 27)) := (Below.refl _ _).alloc (Nat.le_refl _) _; have HB3 : Hid (Below w.heap.size w (w2.alloc (.cells #[.string t.1.1, .int .i64 t.1.2, .slice a2 (lenF t.2) c2] 27))) := HB0.out.trans ((hb2.trans (hba.mono hb2.size)).mono HB0.out.size); have HO3 : Hid (OwnTm false (fun q => w.heap.size + 1 + 1 ≤ q) (w2.alloc (.cells #[.string t.1.1, .int .i64 t.1.2, .slice a2 (lenF t.2) c2] 27)) t.1 a2 c2 t.2) := HO2.out.below hba; have ht := (HXt.out.below hb2).below hba; have hrr := (HXr.out.below hb2).below hba; have HR3 : Hid (XBox (w2.alloc (.cells #[.string t.1.1, .int .i64 t.1.2, .slice a2 (lenF t.2) c2] 27)) (w.heap.size + 1) (⟨#[]⟩, 0) (.slice none 0 0)) := hrr; have q0 := ht.c0; have q1 := ht.c1; have q2 := ht.c2; have r0 := hrr.c0; have r1 := hrr.c1; have r2 := hrr.c2; have f0 := hrr.f (k := 0); have f1 := hrr.f (k := 1); have f2 := hrr.f (k := 2); clear ht hrr hba ho2 hb2))
        refine bodyPost_ret (results_cell_row rfl _ _ (w.heap.size + 1) 27 #[.string t.1.1, .int .i64 t.1.2, .slice a2 (lenF t.2) c2] (0, 0) _ rfl (HR3.out.all (x := t.1) _) Tryz.underlying27 rfl Tryz.size27) rfl ?_
        refine ⟨a2, c2, by rw [e.out]; rfl, ?_, sets_below HB3.out (by omega) _ _ _⟩
        rw [e.out]
        exact (HO3.out.sets _ _ _).mono (fun q _ hq => by omega)

set_option maxRecDepth 100000 in
theorem canon_all (S : Option Addr) (n cap : Nat) (l : List Sym) : ∀ k, k ≤ 1048576 → CanonOk S n cap l k := by
  intro k
  induction k using Nat.strongRecOn with
  | _ k ih =>
    intro hk
    have h : ∀ j, j < k → CanonOk S n cap l j := fun j hj => ih j hj (by omega)
    exact canon_of h (join_of hk h)
set_option maxRecDepth 100000 in
theorem join_all (S : Option Addr) (n cap : Nat) (l : List Sym) (k : Nat) (hk : k ≤ 1048576) : JoinOk S n cap l k := join_of hk fun j hj => canon_all S n cap l j (by omega)
end Go.Proofs.YtgcnjpiiofjljaaGreatDoor
