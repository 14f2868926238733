/- What the document's Clone makes: the term in new memory, its own list in a row of its own. -/
import Derived.Test.YtppgmepmegelbaaGreatDoorTLent
namespace Go.Proofs.YtppgmepmegelbaaGreatDoor
open Go.RowKit Go.Deep

/-- A term whose list is a row of a new block, the lists beneath it in other new blocks. -/
structure RowTm (B0 : Nat) (W : World) (x : ByteArray × Int) (a : Option Addr) (c : Nat) (l : Fo) : Prop where
  sizes : Sizes x.1 (lenF l) c
  list : l = .nil ∨ ∃ g cur, a = some ⟨g, 0, none⟩ ∧ B0 ≤ g ∧ W.heap[g]? = some (Obj.cells cur 28 (0, 0)) ∧ OwnKids false (fun q => B0 ≤ q ∧ q ≠ g) W l g 0
set_option maxRecDepth 100000 in
theorem RowTm.own {B0 : Nat} {W : World} {x : ByteArray × Int} {a : Option Addr} {c : Nat} {l : Fo} (h : RowTm B0 W x a c l) : OwnTm false (fun q => B0 ≤ q) W x a c l :=
  ⟨h.sizes, by
    rcases h.list with h | ⟨g, cur, ha, hg, hc, hk⟩
    · exact .inl ⟨h, rfl⟩
    · exact .inr ⟨g, cur, ha, hg, hc, (fun e => by cases e), hk.mono (fun q _ hq => hq.1)⟩⟩
set_option maxRecDepth 100000 in
theorem RowTm.keep {B0 : Nat} {W W' : World} {x : ByteArray × Int} {a : Option Addr} {c : Nat} {l : Fo} (h : RowTm B0 W x a c l) (hp : ∀ k, B0 ≤ k → k < W.heap.size → W'.heap[k]? = W.heap[k]?) : RowTm B0 W' x a c l :=
  ⟨h.sizes, by
    rcases h.list with h | ⟨g, cur, ha, hg, hc, hk⟩
    · exact .inl h
    · have hgg := hp g hg (Array.getElem?_eq_some_iff.1 hc).1
      exact .inr ⟨g, cur, ha, hg, hgg.trans hc, hk.keep (fun k hk hlt => hp k hk.1 hlt) hgg⟩⟩
set_option maxRecDepth 100000 in
theorem RowTm.below {B0 : Nat} {W W' : World} {x : ByteArray × Int} {a : Option Addr} {c : Nat} {l : Fo} (h : RowTm B0 W x a c l) (hb : Below W.heap.size W W') : RowTm B0 W' x a c l := h.keep fun k _ hk => hb.block k hk

set_option maxRecDepth 100000 in
/-- The list when it is built. -/
theorem built_done {w wr : World} {x : ByteArray × Int} {l : Fo} {v : Value} {ks : List Kv} (hB : Built false w wr v (lenF l) ks) (hks : ks.map (fun k => (k.x, k.l)) = kidsL l) (hx : x.1.size ≤ maxLen) (hf : lenF l * 48 ≤ 140737488351232) :
    ∃ a c, v = .slice a (lenF l) c ∧ RowTm (w.heap.size + 3) wr x a c l := by
  rcases hB.row.2 with ⟨hv, h0⟩ | ⟨g, cap, cur, rfl, hb, hg, hnc, hcm, hsz, hcur⟩
  · refine ⟨none, 0, by rw [h0]; exact hv, ⟨hx, by omega, by simp, hf⟩, .inl (len_nil h0)⟩
  · refine ⟨_, cap, rfl, ⟨hx, hnc, hcm, hf⟩, .inr ⟨g, cur, rfl, hb, hg, ownKids_of l ks 0 hks (owns_at hB.row) (fun k hk => ?_)⟩⟩
    exact (hB.own k hk).mono (fun q _ hq => ⟨hq.1, fun e => hq.2 (by rw [e]; rfl)⟩)

def RCloneOk (k : Nat) : Prop := ∀ (x : ByteArray × Int) (l : Fo) (a : Option Addr) (c : Nat) (w : World), nodesF l ≤ k → TmAt w x a c l →
  Calls Tryz.prog 54 #[.agg #[.string x.1, .int .i64 x.2, .slice a (lenF l) c]] w fun e w' => ∃ a' c', e = .returned (.agg #[.string x.1, .int .i64 x.2, .slice a' (lenF l) c']) ∧ RowTm w.heap.size w' x a' c' l ∧ Below w.heap.size w w'

set_option maxRecDepth 100000 in
set_option maxHeartbeats 4000000 in
theorem rclone_all : ∀ k, RCloneOk k := by
  intro k
  induction k using Nat.strongRecOn with
  | _ k ih =>
    intro x l a c w hk hT
    obtain ⟨i0, hi, hz0, hz1, hz2⟩ := info_parts Tryz.info28
    have HT : Hid (TmAt w x a c l) := hT
    have IH : Hid (∀ j, j < k → RCloneOk j) := ih
    have hn : lenF l ≤ 9223372036854775807 := by have := hT.sizes.len; have := hT.sizes.cap; unfold maxLen at *; omega
    have hfew := hT.sizes.few
    clear hT ih
    go_enter Tryz.func54, Tryz.ntmps54
    go_wp2
    go_loopw [4] (fun i wr => ∃ (j : Nat) (v : Value) (ks : List Kv), j ≤ lenF l ∧ i = .int .i64 j ∧ Three w x a (lenF l) c wr v ∧ Built false w wr v j ks ∧ ks.map (fun k => (k.x, k.l)) = (kidsL l).take j) (fun i _ => lenF l - (intOf i).toNat)
    case atStart => exact ⟨0, _, [], Nat.zero_le _, rfl, Three.new w x a (lenF l) c, ⟨World.ownsRow_nil _ _ _ _, by simp⟩, by simp⟩
    case round =>
      obtain ⟨j, v, ks, hj, rfl, hTh, hBu, hks⟩ := hrel
      have hb := hTh.low
      have bT := hTh.t
      have bX := hTh.x
      have hrow := hBu.row
      have t2 := bT.c2
      by_cases hlt : j < lenF l
      · obtain ⟨bb, oo, rfl, hkk⟩ := HT.out.args.get (by omega)
        obtain ⟨y, a1, c1, l1, kd⟩ := hkk.kid (k := j) hlt
        have kd' := kd.below hb
        have X0 : Hid (XBox wr (w.heap.size + 1 + 1) x v) := bX
        have cX := X0.out.c2
        have hbb : bb < w.heap.size := World.block_lt_of_cell? w _ kd.name
        have p0 := kd'.name; have p1 := kd'.sym; have p2 := kd'.list
        have hIH := IH.out (nodesF l1) (by have := kd.less; omega) y l1 a1 c1 wr.drew (Nat.le_refl _) (kd'.at_.kept (fun _ _ h => h))
        have HIH : Hid (Calls Tryz.prog 54 #[.agg #[.string y.1, .int .i64 y.2, .slice a1 (lenF l1) c1]] wr.drew fun e w' => ∃ a' c', e = .returned (.agg #[.string y.1, .int .i64 y.2, .slice a' (lenF l1) c']) ∧ RowTm wr.heap.size w' y a' c' l1 ∧ Below wr.heap.size wr.drew w') := hIH
        have HR : Hid (wr.ownsRow (w.heap.size + 3) 28 3 v j (kvCells ks)) := hrow
        have HB : Hid (Below w.heap.size w wr) := hb
        have TH : Hid (Three w x (some ⟨bb, oo, none⟩) (lenF l) c wr v) := hTh
        have BU : Hid (Built false w wr v j ks) := hBu
        have HK : Hid (ks.map (fun k => (k.x, k.l)) = (kidsL l).take j) := hks
        have KD : Hid (Kid w l bb oo j y a1 c1 l1) := kd
        have hmax : maxLen = 9223372036854775807 := rfl
        have hXlt : w.heap.size + 1 + 1 < wr.heap.size := X0.out.lt
        clear hIH kd' hkk kd hrow hb hTh hBu hks bT bX
        go_wp2_with fail
        go_region_law
          ((first
            | (refine step_append_lies _ (by rfl) (.tmp 18) (.tmp 25) 26 (by rfl) (w.heap.size + 3) 28 i0 _ 3 48 Tryz.underlying26 hi hz0 hz1 hz2 rfl (by decide) v j (kvCells ks) (by rfl) (owns_below (owns_below HR.out HW1.out) ((Below.refl _ _).alloc (Nat.le_refl _) _)) ⟨w1.heap.size, 0, none⟩ 1 1 (Kv.cells ⟨y, l1, a', c'⟩) (by rfl) rfl (World.news_of_block (heap_alloc_new w1 _)) (kv_one _) (by decide) (by omega) (by omega) (by have := HW1.out.size; simp; omega) _ rfl ?_; intro g3 cap3 w3 hown3 hgrow3 hat3 hlt3; have X3 : Hid (XBox w3 (w.heap.size + 1 + 1) x v) := X2.out.kept hgrow3 (fun e => by have := (owns_cells HR.out e.symm).1; omega); have cX3 := X3.out.c2; have fX3 := X3.out.f (k := 2); have HO3 : Hid (w3.ownsRow (w.heap.size + 3) 28 3 (.slice (some ⟨g3, 0, none⟩) (j + 1) cap3) (j + 1) (kvCells ks ++ Kv.cells ⟨y, l1, a', c'⟩)) := hown3; have HG3 : Hid ((w1.alloc (.cells #[.string y.1, .int .i64 y.2, .slice a' (lenF l1) c'] 28)).grownBy w3 v.ownBlock ∧ (v.ownBlock = some g3 ∨ g3 = w1.heap.size + 1)) := ⟨hgrow3, by simpa using hat3⟩; clear hown3 hgrow3 hat3)
            | (go_simp; go_wp2_with (go_at_call 54; refine HIH.out.mono ?_; rintro e w1 ⟨a', c', rfl, ho1, hb1⟩; have HO1 : Hid (OwnTm false (fun k => wr.heap.size ≤ k) w1 y a' c' l1) := ho1.own; have HW1 : Hid (Below wr.heap.size wr w1) := ((Below.refl _ wr).drew).trans hb1; have X1 : Hid (XBox w1 (w.heap.size + 1 + 1) x v) := X0.out.below HW1.out; have cX1 := X1.out.c2; have X2 : Hid (XBox (w1.alloc (.cells #[.string y.1, .int .i64 y.2, .slice a' (lenF l1) c'] 28)) (w.heap.size + 1 + 1) x v) := X1.out.below ((Below.refl _ _).alloc (Nat.le_refl _) _); have cX2 := X2.out.c2; clear ho1 hb1))
            | fail))
        all_goals
          go_wp2
          go_roundw
          case rel =>
            obtain ⟨h1, h2⟩ := build_step (kv := ⟨y, l1, a', c'⟩) TH.out BU.out HW1.out HO1.out HG3.out.1 HG3.out.2 HO3.out
            obtain ⟨B1, O1, sp⟩ := KD.out.split
            exact ⟨j + 1, _, _, by omega, by go_num, h1, h2, by rw [kids_take sp, ← HK.out]; simp⟩
          case measure => simp [intOf]; omega
      · have hjl : j = lenF l := by omega
        subst hjl
        have hks' : ks.map (fun k => (k.x, k.l)) = kidsL l := by rw [hks, ← kids_len, List.take_length]
        obtain ⟨a3, c3, rfl, hrt⟩ := built_done hBu hks' HT.out.sizes.name HT.out.sizes.few
        have x0 := bX.c0; have x1 := bX.c1; have x2 := bX.c2
        have R4 : XBox wr (w.heap.size + 1) (⟨#[]⟩, 0) (.slice none 0 0) := hTh.r
        have r0 := R4.c0
        have r1 := R4.c1
        have r2 := R4.c2
        have f0 := R4.f (k := 0)
        have f1 := R4.f (k := 1)
        have f2 := R4.f (k := 2)
        have HR4 : Hid (XBox wr (w.heap.size + 1) (⟨#[]⟩, 0) (.slice none 0 0)) := R4
        have HL : Hid (Below w.heap.size w wr) := hb
        have HRT : Hid (RowTm (w.heap.size + 3) wr x a3 c3 l) := hrt
        clear R4 hTh hBu hks hks' hb bT bX hrow hrt
        go_wp2
        refine bodyPost_ret (results_cell_row rfl _ _ (w.heap.size + 1) 28 #[.string x.1, .int .i64 x.2, .slice a3 (lenF l) c3] (0, 0) _ rfl (HR4.out.all (x := x) _) Tryz.underlying28 rfl Tryz.size28) rfl ?_
        refine ⟨a3, c3, rfl, ?_, sets_below HL.out (by omega) _ _ _⟩
        have h := HRT.out.keep (W' := (((wr.setCell ⟨w.heap.size + 1, 0, none⟩ (.string x.1)).setCell ⟨w.heap.size + 1, 1, none⟩ (.int .i64 x.2)).setCell ⟨w.heap.size + 1, 2, none⟩ (.slice a3 (lenF l) c3))) (fun q hq _ => sets_far (by omega) _ _ _)
        exact ⟨h.sizes, by
          rcases h.list with h | ⟨g, cur, ha, hg, hc, hk⟩
          · exact .inl h
          · exact .inr ⟨g, cur, ha, by omega, hc, hk.mono (fun q _ hq => ⟨by omega, hq.2⟩)⟩⟩
set_option maxRecDepth 100000 in
theorem rclone_any (x : ByteArray × Int) (l : Fo) (a : Option Addr) (c : Nat) (w : World) (hT : TmAt w x a c l) :
    Calls Tryz.prog 54 #[.agg #[.string x.1, .int .i64 x.2, .slice a (lenF l) c]] w fun e w' => ∃ a' c', e = .returned (.agg #[.string x.1, .int .i64 x.2, .slice a' (lenF l) c']) ∧ RowTm w.heap.size w' x a' c' l ∧ Below w.heap.size w w' :=
  rclone_all _ x l a c w (Nat.le_refl _) hT
end Go.Proofs.YtppgmepmegelbaaGreatDoor
