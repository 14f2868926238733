import Derived.Test.YtfnfbljijkjkjaaGreatKSGet
/- The document's PutIn. -/
namespace Go.Proofs.YtfnfbljijkjkjaaGreat
open Go.RowKit Go.Deep Go.Shelf

def getN (bs : List Bn) (s : ByteArray) : Tn := match getB bs s with | some t => t | none => ((s, 0), .nil)
/-- Terms in which the first binds' terms stand for variables. -/
def pinF (bs : List Bn) : Fo → Fo
  | .nil => .nil
  | .node B O x l r => if noName x.1 = true then .node B O x (pinF bs l) (pinF bs r) else .node B O (getN bs x.1).1 (getN bs x.1).2 (pinF bs r)
def pinN (bs : List Bn) (x : ByteArray × Int) (l : Fo) : Tn := if noName x.1 = true then (x, pinF bs l) else getN bs x.1
theorem pinF_len (bs : List Bn) : ∀ F : Fo, lenF (pinF bs F) = lenF F
  | .nil => rfl
  | .node _ _ x l r => by
    unfold pinF
    split
    · simp only [lenF]; rw [pinF_len bs r]
    · simp only [lenF]; rw [pinF_len bs r]
theorem pinF_kids (bs : List Bn) : ∀ F : Fo, kidsL (pinF bs F) = (kidsL F).map fun y => pinN bs y.1 y.2
  | .nil => rfl
  | .node _ _ x l r => by
    unfold pinF
    by_cases h : noName x.1 = true
    · rw [if_pos h]
      simp only [kidsL, List.map_cons]
      rw [pinF_kids bs r]
      unfold pinN
      rw [if_pos h]
    · rw [if_neg h]
      simp only [kidsL, List.map_cons]
      rw [pinF_kids bs r]
      unfold pinN
      rw [if_neg h]
theorem no_name {s : ByteArray} (h : noName s = true) : s = ⟨#[]⟩ := name_eq (by
  have h1 : s.toList = [] := List.isEmpty_iff.1 h
  rw [h1, ByteArray.toList_eq]
  rfl)
def PinOk (bs : List Bn) (k : Nat) : Prop := ∀ (x : ByteArray × Int) (l : Fo) (a : Option Addr) (c : Nat) (p : Option Addr) (bcap : Nat) (w : World), nodesF l ≤ k → TmAt w x a c l → BindsAt w p bs.length bs →
  Calls Tryz.prog 14 #[.slice p bs.length bcap, .agg #[.string x.1, .int .i64 x.2, .slice a (lenF l) c]] w fun e w' => ∃ a' c', e = .returned (.agg #[.string (pinN bs x l).1.1, .int .i64 (pinN bs x l).1.2, .slice a' (lenF (pinN bs x l).2) c']) ∧ RowTm w.heap.size w' (pinN bs x l).1 a' c' (pinN bs x l).2 ∧ Below w.heap.size w w'
set_option maxRecDepth 100000 in
set_option maxHeartbeats 4000000 in
theorem pin_all (bs : List Bn) (hbn : bs.length ≤ 1048576) : ∀ k, PinOk bs k := by
  intro k
  induction k using Nat.strongRecOn with
  | _ k ih =>
    intro x l a c p bcap w hk hT hBs
    obtain ⟨i0, hi, hz0, hz1, hz2⟩ := info_parts Tryz.info26
    have HT : Hid (TmAt w x a c l) := hT
    have HBs := hid hBs
    have IH : Hid (∀ j, j < k → PinOk bs j) := ih
    have hn : lenF l ≤ 9223372036854775807 := by have := hT.sizes.len; have := hT.sizes.cap; unfold maxLen at *; omega
    have hfew := hT.sizes.few
    clear hT ih hBs
    cases hnm : noName x.1 with
    | true =>
      have HP : Hid (pinN bs x l = (x, pinF bs l)) := hid (by unfold pinN; rw [if_pos hnm])
      have HX1 := hid (no_name hnm)
      have hnm' : x.1.toList.isEmpty = true := hnm
      go_enter Tryz.func14, Tryz.ntmps14
      go_wp2_with fail
      go_loopw [8] (fun i wr => ∃ (j : Nat) (v : Value) (ks : List Kv), j ≤ lenF l ∧ i = .int .i64 j ∧ Three w x a (lenF l) c wr v ∧ Built false w wr v j ks ∧ ks.map (fun k => (k.x, k.l)) = ((kidsL l).take j).map (fun y => pinN bs y.1 y.2)) (fun i _ => lenF l - (intOf i).toNat)
      case atStart => exact ⟨0, _, [], Nat.zero_le _, rfl, (by have h := Three.new w x a (lenF l) c; simp only [HX1.out] at h ⊢; exact h), ⟨World.ownsRow_nil _ _ _ _, by simp⟩, by simp⟩
      case round =>
        obtain ⟨j, v, ks, hj, rfl, hTh, hBu, hks⟩ := hrel
        have hb := hTh.low
        have bT := hTh.t
        have bX := hTh.x
        have hrow := hBu.row
        have t2 := bT.c2
        by_cases hlt : j < lenF l
        · obtain ⟨bb, oo, rfl, hkk⟩ := HT.out.args.get (by omega)
          obtain ⟨y, a1, c1, l1, kd⟩ := hkk.kid (k := j) hlt
          have kd' := kd.below hb
          have X0 : Hid (XBox wr (w.heap.size + 1 + 1) x v) := bX
          have cX := X0.out.c2
          have hbb : bb < w.heap.size := World.block_lt_of_cell? w _ kd.name
          have p0 := kd'.name; have p1 := kd'.sym; have p2 := kd'.list
          have hIH := IH.out (nodesF l1) (by have := kd.less; omega) y l1 a1 c1 p bcap wr.drew (Nat.le_refl _) (kd'.at_.kept (fun _ _ h => h)) (HBs.out.below hb.drew)
          obtain ⟨⟨y', m'⟩, hz⟩ : ∃ Z, pinN bs y l1 = Z := ⟨_, rfl⟩
          rw [hz] at hIH
          have HZ := hid hz
          have HIH : Hid (Calls Tryz.prog 14 #[.slice p bs.length bcap, .agg #[.string y.1, .int .i64 y.2, .slice a1 (lenF l1) c1]] wr.drew fun e w' => ∃ a' c', e = .returned (.agg #[.string y'.1, .int .i64 y'.2, .slice a' (lenF m') c']) ∧ RowTm wr.heap.size w' y' a' c' m' ∧ Below wr.heap.size wr.drew w') := hIH
          have HR : Hid (wr.ownsRow (w.heap.size + 3) 26 3 v j (kvCells ks)) := hrow
          have HB : Hid (Below w.heap.size w wr) := hb
          have TH : Hid (Three w x (some ⟨bb, oo, none⟩) (lenF l) c wr v) := hTh
          have BU : Hid (Built false w wr v j ks) := hBu
          have HK : Hid (ks.map (fun k => (k.x, k.l)) = ((kidsL l).take j).map (fun y => pinN bs y.1 y.2)) := hks
          have KD : Hid (Kid w l bb oo j y a1 c1 l1) := kd
          have hmax : maxLen = 9223372036854775807 := rfl
          have hXlt : w.heap.size + 1 + 1 < wr.heap.size := X0.out.lt
          clear hIH hz kd' hkk kd hrow hb hTh hBu hks bT bX
          go_wp2_with fail
          go_region_law
            ((first
              | (refine step_append_lies _ (by rfl) (.tmp 32) (.tmp 40) 24 (by rfl) (w.heap.size + 3) 26 i0 _ 3 48 Tryz.underlying24 hi hz0 hz1 hz2 rfl (by decide) v j (kvCells ks) (by rfl) (owns_below (owns_below HR.out HW1.out) ((Below.refl _ _).alloc (Nat.le_refl _) _)) ⟨w1.heap.size, 0, none⟩ 1 1 (Kv.cells ⟨y', m', a', c'⟩) (by rfl) rfl (World.news_of_block (heap_alloc_new w1 _)) (kv_one _) (by decide) (by omega) (by omega) (by have := HW1.out.size; simp; omega) _ rfl ?_; intro g3 cap3 w3 hown3 hgrow3 hat3 hlt3; have X3 : Hid (XBox w3 (w.heap.size + 1 + 1) x v) := X2.out.kept hgrow3 (fun e => by have := (owns_cells HR.out e.symm).1; omega); have cX3 := X3.out.c2; have fX3 := X3.out.f (k := 2); have HO3 : Hid (w3.ownsRow (w.heap.size + 3) 26 3 (.slice (some ⟨g3, 0, none⟩) (j + 1) cap3) (j + 1) (kvCells ks ++ Kv.cells ⟨y', m', a', c'⟩)) := hown3; have HG3 : Hid ((w1.alloc (.cells #[.string y'.1, .int .i64 y'.2, .slice a' (lenF m') c'] 26)).grownBy w3 v.ownBlock ∧ (v.ownBlock = some g3 ∨ g3 = w1.heap.size + 1)) := ⟨hgrow3, by simpa using hat3⟩; clear hown3 hgrow3 hat3)
              | (go_simp; go_wp2_with (go_at_call 14; refine HIH.out.mono ?_; rintro e w1 ⟨a', c', rfl, ho1, hb1⟩; have HO1 : Hid (OwnTm false (fun k => wr.heap.size ≤ k) w1 y' a' c' m') := ho1.own; have HW1 : Hid (Below wr.heap.size wr w1) := ((Below.refl _ wr).drew).trans hb1; have X1 : Hid (XBox w1 (w.heap.size + 1 + 1) x v) := X0.out.below HW1.out; have cX1 := X1.out.c2; have X2 : Hid (XBox (w1.alloc (.cells #[.string y'.1, .int .i64 y'.2, .slice a' (lenF m') c'] 26)) (w.heap.size + 1 + 1) x v) := X1.out.below ((Below.refl _ _).alloc (Nat.le_refl _) _); have cX2 := X2.out.c2; clear ho1 hb1))
              | fail))
          all_goals
            go_wp2
            go_roundw
            case rel =>
              obtain ⟨h1, h2⟩ := build_step (kv := ⟨y', m', a', c'⟩) TH.out BU.out HW1.out HO1.out HG3.out.1 HG3.out.2 HO3.out
              obtain ⟨B1, O1, sp⟩ := KD.out.split
              exact ⟨j + 1, _, _, by omega, by go_num, h1, h2, by rw [kids_take sp, List.map_append, List.map_append, HK.out]; show _ = _ ++ [pinN bs y l1]; rw [HZ.out]; rfl⟩
            case measure => simp [intOf]; omega
        · have hjl : j = lenF l := by omega
          subst hjl
          have hks' : ks.map (fun k => (k.x, k.l)) = kidsL (pinF bs l) := by rw [hks, ← kids_len, List.take_length, pinF_kids]
          obtain ⟨a3, c3, rfl, hrt⟩ := built_done (x := x) (l := pinF bs l) (by rw [pinF_len]; exact hBu) hks' HT.out.sizes.name (by rw [pinF_len]; exact HT.out.sizes.few)
          have x0 := bX.c0; have x1 := bX.c1; have x2 := bX.c2
          have R4 : XBox wr (w.heap.size + 1) (⟨#[]⟩, 0) (.slice none 0 0) := hTh.r
          have r0 := R4.c0
          have r1 := R4.c1
          have r2 := R4.c2
          have f0 := R4.f (k := 0)
          have f1 := R4.f (k := 1)
          have f2 := R4.f (k := 2)
          have HR4 : Hid (XBox wr (w.heap.size + 1) (⟨#[]⟩, 0) (.slice none 0 0)) := R4
          have HL : Hid (Below w.heap.size w wr) := hb
          have HRT : Hid (RowTm (w.heap.size + 3) wr x a3 c3 (pinF bs l)) := hrt
          clear R4 hTh hBu hks hks' hb bT bX hrow hrt
          go_wp2
          refine bodyPost_ret (results_cell_row rfl _ _ (w.heap.size + 1) 26 #[.string x.1, .int .i64 x.2, .slice a3 (lenF (pinF bs l)) c3] (0, 0) _ rfl (HR4.out.all (x := x) _) Tryz.underlying26 rfl Tryz.size26) rfl ?_
          rw [HP.out]
          refine ⟨a3, c3, rfl, ?_, sets_below HL.out (by omega) _ _ _⟩
          have h := HRT.out.keep (W' := (((wr.setCell ⟨w.heap.size + 1, 0, none⟩ (.string x.1)).setCell ⟨w.heap.size + 1, 1, none⟩ (.int .i64 x.2)).setCell ⟨w.heap.size + 1, 2, none⟩ (.slice a3 (lenF (pinF bs l)) c3))) (fun q hq _ => sets_far (by omega) _ _ _)
          exact ⟨h.sizes, by
            rcases h.list with h | ⟨g, cur, ha, hg, hc, hk⟩
            · exact .inl h
            · exact .inr ⟨g, cur, ha, by omega, hc, hk.mono (fun q _ hq => ⟨by omega, hq.2⟩)⟩⟩
    | false =>
      have hnm' : x.1.toList.isEmpty = false := hnm
      have HP : Hid (pinN bs x l = getN bs x.1) := hid (by unfold pinN; rw [if_neg (by rw [hnm]; decide)])
      obtain ⟨W0, hW0⟩ : ∃ W0, (w.alloc (.cells #[.string x.1, .int .i64 x.2, .slice a (lenF l) c] 26)).alloc (.cells #[.string ⟨#[]⟩, .int .i64 0, .slice none 0 0] 26) = W0 := ⟨_, rfl⟩
      have hb0 : Below w.heap.size w W0 := by rw [← hW0]; exact ((Below.refl _ w).alloc (Nat.le_refl _) _).alloc (by simp) _
      have b1 : XBox W0 w.heap.size x (.slice a (lenF l) c) := by rw [← hW0]; exact (Below.heap_alloc _ _ _ (by simp)).trans (World.alloc_heap_new w _)
      have b2 : XBox W0 (w.heap.size + 1) (⟨#[]⟩, 0) (.slice none 0 0) := by
        have := World.alloc_heap_new (w.alloc (.cells #[.string x.1, .int .i64 x.2, .slice a (lenF l) c] 26)) (.cells #[.string ⟨#[]⟩, .int .i64 0, .slice none 0 0] 26)
        rw [World.size_alloc] at this
        rw [← hW0]; exact this
      have hsz : W0.heap.size = w.heap.size + 2 := by rw [← hW0]; simp
      have HG := hid (rget_any p bcap bs x.1 W0 (HBs.out.below hb0) hbn)
      have z0 := b1.c0
      go_enter Tryz.func14, Tryz.ntmps14
      go_wp2_with fail
      clear hW0
      refine HG.out.mono ?_
      rintro e w1 ⟨hb1, hres⟩
      obtain ⟨t, a', c', bo, rfl, hT1, hs1⟩ : ∃ (t : Tn) (a' : Option Addr) (c' : Nat) (bo : Bool), e = .returned (.tuple #[.agg #[.string t.1.1, .int .i64 t.1.2, .slice a' (lenF t.2) c'], .bool bo]) ∧ TmAt w1 t.1 a' c' t.2 ∧ getN bs x.1 = t := by
        rcases hres with ⟨h1, rfl⟩ | ⟨t, a', c', h1, h2, rfl⟩
        · exact ⟨((x.1, 0), .nil), none, 0, false, rfl, ⟨⟨HT.out.sizes.name, Nat.le_refl _, by simp, by simp [lenF]⟩, .inl rfl⟩, by unfold getN; rw [h1]⟩
        · exact ⟨t, a', c', true, rfl, h2.below hb1, by unfold getN; rw [h1]⟩
      have bx := alloc_below0 w1 (.cells #[.string t.1.1, .int .i64 t.1.2, .slice a' (lenF t.2) c'] 26)
      have HC := hid (rclone_any t.1 t.2 a' c' (w1.alloc (.cells #[.string t.1.1, .int .i64 t.1.2, .slice a' (lenF t.2) c'] 26)) (hT1.below bx))
      have HY1 := hid ((b2.below hb1).below bx)
      have hl1 := hb0.trans (hb1.mono hb0.size)
      have HL := hid (hl1.trans (bx.mono hl1.size))
      have HS1 := hid hs1
      have hw1 : w.heap.size + 2 ≤ w1.heap.size := by have := hb1.size; omega
      clear hres hT1 bx hb1 hl1 HG z0 b1 b2 hs1 hb0
      go_wp2_with fail
      refine HC.out.mono ?_
      rintro e w3 ⟨a3, c3, rfl, hrt, hb3⟩
      have Y3 := HY1.out.below hb3
      have HY3 := hid Y3
      have HL3 := hid (HL.out.trans (hb3.mono HL.out.size))
      have r0 := Y3.c0; have r1 := Y3.c1; have r2 := Y3.c2
      have f0 := Y3.f (k := 0); have f1 := Y3.f (k := 1); have f2 := Y3.f (k := 2)
      have HRT := hid hrt
      clear Y3 hb3 HC hrt
      go_wp2_with fail
      refine bodyPost_ret (results_cell_row rfl _ _ (w.heap.size + 1) 26 #[.string t.1.1, .int .i64 t.1.2, .slice a3 (lenF t.2) c3] (0, 0) _ rfl (HY3.out.all (x := t.1) _) Tryz.underlying26 rfl Tryz.size26) rfl ?_
      rw [HP.out, HS1.out]
      refine ⟨a3, c3, rfl, ?_, sets_below HL3.out (by omega) _ _ _⟩
      have h := HRT.out.keep (W' := (((w3.setCell ⟨w.heap.size + 1, 0, none⟩ (.string t.1.1)).setCell ⟨w.heap.size + 1, 1, none⟩ (.int .i64 t.1.2)).setCell ⟨w.heap.size + 1, 2, none⟩ (.slice a3 (lenF t.2) c3))) (fun q hq _ => sets_far (by simp only [World.size_alloc] at hq; omega) _ _ _)
      exact ⟨h.sizes, by
        rcases h.list with h | ⟨g, cur, ha, hg, hc, hk⟩
        · exact .inl h
        · simp only [World.size_alloc] at hg hk
          exact .inr ⟨g, cur, ha, by omega, hc, hk.mono (fun q _ hq => ⟨by omega, hq.2⟩)⟩⟩
end Go.Proofs.YtfnfbljijkjkjaaGreat
