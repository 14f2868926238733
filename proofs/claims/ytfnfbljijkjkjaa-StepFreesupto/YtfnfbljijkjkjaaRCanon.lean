/- What the document's Canon answers, of any term. -/
import Derived.Test.YtfnfbljijkjkjaaRJoin
namespace Go.Proofs.Ytfnfbljijkjkjaa
open Go.RowKit Go.Deep

set_option maxRecDepth 100000 in
set_option maxHeartbeats 2000000 in
theorem canon_of {S : Option Addr} {n cap : Nat} {l : List Sym} {k : Nat} (ih : ∀ j, j < k → CanonOk S n cap l j) (hJ : JoinOk S n cap l k) : CanonOk S n cap l k := by
  rintro ⟨⟨nm, sy⟩, F⟩ a c w hF hS hT
  have HS : Hid (SigAt w S n l) := hS
  have HT : Hid (TmAt w (nm, sy) a c F) := hT
  have IH : Hid (∀ j, j < k → CanonOk S n cap l j) := ih
  have HJ : Hid (∀ W, Below w.heap.size w W → Calls Try.prog 67 #[.slice S n cap, .int .i64 sy] W fun e w' => e = .returned (.bool (joinsAt l sy)) ∧ w' = W) := fun W hW => joins_still S n cap l sy W (HS.out.below hW)
  have HJo : Hid (∀ W, Below w.heap.size w W → Calls Try.prog 68 #[.slice S n cap, .int .i64 sy, .slice a (lenF F) c] W fun e w' => JoinRet W.heap.size w' (joinN (sgOf l) sy (canonL (sgOf l) F)) e ∧ Below W.heap.size W w') := fun W hW => hJ sy F a c W hF (HS.out.below hW) (HT.out.args.below hW)
  have HB0 : Hid (Below w.heap.size w ((w.alloc (.cells #[.string nm, .int .i64 sy, .slice a (lenF F) c] 26)).alloc (.cells #[.string ⟨#[]⟩, .int .i64 0, .slice none 0 0] 26))) := ((Below.refl _ w).alloc (Nat.le_refl _) _).alloc (by simp) _
  have hfew := HT.out.sizes.few
  have hnm := HT.out.sizes.name
  clear hS hT ih hJ
  cases hn : nm.toList.isEmpty
  · have e : Hid (canonT (sgOf l) ((nm, sy), F) = ((nm, 0), .nil)) := by show _ = _; unfold canonT canon1; rw [if_pos (show noName ((nm, sy), F).1.1 = false from hn)]
    have HBn : Hid (Below w.heap.size w ((w.alloc (.cells #[.string nm, .int .i64 sy, .slice a (lenF F) c] 26)).alloc (.cells #[.string nm, .int .i64 0, .slice none 0 0] 26))) := ((Below.refl _ w).alloc (Nat.le_refl _) _).alloc (by simp) _
    go_enter Try.func46, Try.ntmps46
    go_wp2
    refine bodyPost_ret (results_cell_row rfl _ _ (w.heap.size + 1) 26 #[.string nm, .int .i64 0, .slice none 0 0] (0, 0) _ rfl (heap_alloc2_new w _ _) Try.underlying26 rfl Try.size26) rfl ?_
    refine ⟨none, 0, by rw [e.out]; rfl, ?_, HBn.out⟩
    rw [e.out]
    exact own_nil _ _ hnm
  · have hnb : nm = noB := noName_eq hn
    subst hnb
    have HXt : Hid (TBox ((w.alloc (.cells #[.string noB, .int .i64 sy, .slice a (lenF F) c] 26)).alloc (.cells #[.string ⟨#[]⟩, .int .i64 0, .slice none 0 0] 26)) w.heap.size (noB, sy) a (lenF F) c) := (TBox.new w (noB, sy) a (lenF F) c).below ((Below.refl _ _).alloc (Nat.le_refl _) _)
    have HXr : Hid (XBox ((w.alloc (.cells #[.string noB, .int .i64 sy, .slice a (lenF F) c] 26)).alloc (.cells #[.string ⟨#[]⟩, .int .i64 0, .slice none 0 0] 26)) (w.heap.size + 1) (⟨#[]⟩, 0) (.slice none 0 0)) := heap_alloc2_new w _ _
    cases hj : joinsAt l sy
    · obtain ⟨G, hG⟩ : ∃ G, mkF (canonL (sgOf l) F) = G := ⟨_, rfl⟩
      have e : Hid (canonT (sgOf l) ((noB, sy), F) = ((noB, sy), G)) := by show _ = _; unfold canonT canon1; rw [if_neg (show ¬ noName ((noB, sy), F).1.1 = false by show ¬ noName noB = false; rw [noName_noB]; simp), if_neg (show ¬ (sgOf l).joins ((noB, sy), F).1.2 = true by show ¬ joinsAt l sy = true; rw [hj]; simp), hG]
      have HGk : Hid (kidsL G = canonL (sgOf l) F) := by show _ = _; rw [← hG, kids_mk]
      have hGl : lenF G = lenF F := by rw [← hG, len_mk, canonL_map, List.length_map, kids_len]
      obtain ⟨i0, hi, hz0, hz1, hz2⟩ := info_parts Try.info26
      rw [hj] at HJ
      clear hG
      go_enter Try.func46, Try.ntmps46
      go_wp2_with (first
        | (go_at_call 67; refine (HJ.out _ HB0.out).mono ?_; rintro e w9 ⟨rfl, hw9⟩; rw [hw9]; clear hw9))
      go_loopw [8] (fun i wr => ∃ (j : Nat) (v : Value) (ks : List Kv), j ≤ lenF F ∧ i = .int .i64 j ∧ Three w (noB, sy) a (lenF F) c wr v ∧ Built false w wr v j ks ∧ ks.map (fun k => (k.x, k.l)) = (canonL (sgOf l) F).take j) (fun i _ => lenF F - (intOf i).toNat)
      case atStart => exact ⟨0, _, [], Nat.zero_le _, rfl, Three.new w (noB, sy) a (lenF F) c, ⟨World.ownsRow_nil _ _ _ _, by simp⟩, by simp⟩
      case round =>
        obtain ⟨j, v, ks, hj, rfl, hTh, hBu, hks⟩ := hrel
        have hb := hTh.low
        have bT := hTh.t
        have bX := hTh.x
        have hrow := hBu.row
        have t2 := bT.c2
        have hn : lenF F ≤ 9223372036854775807 := by omega
        by_cases hlt : j < lenF F
        · obtain ⟨bb, oo, rfl, hkk⟩ := HT.out.args.get (by omega)
          obtain ⟨y, a1, c1, l1, kd⟩ := hkk.kid (k := j) hlt
          have kd' := kd.below hb
          have X0 : Hid (XBox wr (w.heap.size + 1 + 1) (noB, sy) v) := bX
          have cX := X0.out.c2
          have hbb : bb < w.heap.size := World.block_lt_of_cell? w _ kd.name
          have p0 := kd'.name; have p1 := kd'.sym; have p2 := kd'.list
          obtain ⟨ct, hct⟩ : ∃ ct, canonT (sgOf l) (y, l1) = ct := ⟨_, rfl⟩
          have hIH := IH.out (nodesF l1) (by have := kd.less; omega) (y, l1) a1 c1 wr.drew (Nat.le_refl _) ((HS.out.below hb).below ((Below.refl _ wr).drew)) (kd'.at_.kept (fun _ _ h => h))
          rw [hct] at hIH
          have HIH : Hid (Calls Try.prog 46 #[.slice S n cap, .agg #[.string y.1, .int .i64 y.2, .slice a1 (lenF l1) c1]] wr.drew fun e w' => ∃ a' c', e = .returned (.agg #[.string ct.1.1, .int .i64 ct.1.2, .slice a' (lenF ct.2) c']) ∧ OwnTm false (fun q => wr.heap.size ≤ q) w' ct.1 a' c' ct.2 ∧ Below wr.heap.size wr.drew w') := hIH
          have HCT : Hid (canonT (sgOf l) (y, l1) = ct) := hct
          have HR : Hid (wr.ownsRow (w.heap.size + 3) 26 3 v j (kvCells ks)) := hrow
          have HB : Hid (Below w.heap.size w wr) := hb
          have TH : Hid (Three w (noB, sy) (some ⟨bb, oo, none⟩) (lenF F) c wr v) := hTh
          have BU : Hid (Built false w wr v j ks) := hBu
          have HK : Hid (ks.map (fun k => (k.x, k.l)) = (canonL (sgOf l) F).take j) := hks
          have KD : Hid (Kid w F bb oo j y a1 c1 l1) := kd
          have hmax : maxLen = 9223372036854775807 := rfl
          have hXlt : w.heap.size + 1 + 1 < wr.heap.size := X0.out.lt
          clear hIH kd' hkk kd hrow hb hTh hBu hks bT bX hct
          go_wp2_with fail
          go_region_law
            ((first
              | (refine step_append_lies _ (by rfl) _ _ 24 (by rfl) (w.heap.size + 3) 26 i0 _ 3 48 Try.underlying24 hi hz0 hz1 hz2 rfl (by decide) v j (kvCells ks) (by rfl) (owns_below (owns_below HR.out HW1.out) ((Below.refl _ _).alloc (Nat.le_refl _) _)) ⟨w1.heap.size, 0, none⟩ 1 1 (Kv.cells ⟨ct.1, ct.2, a', c'⟩) (by rfl) rfl (World.news_of_block (heap_alloc_new w1 _)) (kv_one _) (by decide) (by omega) (by omega) (by have := HW1.out.size; simp; omega) _ rfl ?_; intro g3 cap3 w3 hown3 hgrow3 hat3 hlt3; have X3 : Hid (XBox w3 (w.heap.size + 1 + 1) (noB, sy) v) := X2.out.kept hgrow3 (fun e => by have := (owns_cells HR.out e.symm).1; omega); have cX3 := X3.out.c2; have fX3 := X3.out.f (k := 2); have HO3 : Hid (w3.ownsRow (w.heap.size + 3) 26 3 (.slice (some ⟨g3, 0, none⟩) (j + 1) cap3) (j + 1) (kvCells ks ++ Kv.cells ⟨ct.1, ct.2, a', c'⟩)) := hown3; have HG3 : Hid ((w1.alloc (.cells #[.string ct.1.1, .int .i64 ct.1.2, .slice a' (lenF ct.2) c'] 26)).grownBy w3 v.ownBlock ∧ (v.ownBlock = some g3 ∨ g3 = w1.heap.size + 1)) := ⟨hgrow3, by simpa using hat3⟩; clear hown3 hgrow3 hat3)
              | (go_simp; go_wp2_with (go_at_call 46; refine HIH.out.mono ?_; rintro e w1 ⟨a', c', rfl, ho1, hb1⟩; have HO1 : Hid (OwnTm false (fun k => wr.heap.size ≤ k) w1 ct.1 a' c' ct.2) := ho1; have HW1 : Hid (Below wr.heap.size wr w1) := ((Below.refl _ wr).drew).trans hb1; have X1 : Hid (XBox w1 (w.heap.size + 1 + 1) (noB, sy) v) := X0.out.below HW1.out; have cX1 := X1.out.c2; have X2 : Hid (XBox (w1.alloc (.cells #[.string ct.1.1, .int .i64 ct.1.2, .slice a' (lenF ct.2) c'] 26)) (w.heap.size + 1 + 1) (noB, sy) v) := X1.out.below ((Below.refl _ _).alloc (Nat.le_refl _) _); have cX2 := X2.out.c2; clear ho1 hb1))
              | fail))
          all_goals
            go_wp2
            go_roundw
            case rel =>
              obtain ⟨h1, h2⟩ := build_step (kv := ⟨ct.1, ct.2, a', c'⟩) TH.out BU.out HW1.out HO1.out HG3.out.1 HG3.out.2 HO3.out
              obtain ⟨B1, O1, sp⟩ := KD.out.split
              exact ⟨j + 1, _, _, by omega, by go_num, h1, h2, by rw [canonL_take sp, ← HK.out, HCT.out]; simp⟩
            case measure => simp [intOf]; omega
        · have hjl : j = lenF F := by omega
          subst hjl
          have hks' : ks.map (fun k => (k.x, k.l)) = kidsL G := by rw [hks, HGk.out, List.take_of_length_le (by rw [canonL_map, List.length_map, kids_len]; exact Nat.le_refl _)]
          have hBu' : Built false w wr v (lenF G) ks := by rw [hGl]; exact hBu
          obtain ⟨a3, c3, rfl, hrt⟩ := built_done (x := (noB, sy)) hBu' hks' hnm (by rw [hGl]; exact hfew)
          have x0 := bX.c0; have x1 := bX.c1; have x2 := bX.c2
          have R4 : XBox wr (w.heap.size + 1) (⟨#[]⟩, 0) (.slice none 0 0) := hTh.r
          have r0 := R4.c0
          have r1 := R4.c1
          have r2 := R4.c2
          have f0 := R4.f (k := 0)
          have f1 := R4.f (k := 1)
          have f2 := R4.f (k := 2)
          have HR4 : Hid (XBox wr (w.heap.size + 1) (⟨#[]⟩, 0) (.slice none 0 0)) := R4
          have HL : Hid (Below w.heap.size w wr) := hb
          have HRT : Hid (RowTm (w.heap.size + 3) wr (noB, sy) a3 c3 G) := hrt
          clear R4 hTh hBu hBu' hks hks' hb bT bX hrow hrt
          go_wp2
          refine bodyPost_ret (results_cell_row rfl _ _ (w.heap.size + 1) 26 #[.string noB, .int .i64 sy, .slice a3 (lenF F) c3] (0, 0) _ rfl (HR4.out.all (x := (noB, sy)) _) Try.underlying26 rfl Try.size26) rfl ?_
          refine ⟨a3, c3, by rw [e.out, hGl], ?_, sets_below HL.out (by omega) _ _ _⟩
          rw [e.out]
          have h5 : OwnTm false (fun q => w.heap.size + 1 + 1 ≤ q) wr (noB, sy) a3 c3 G := HRT.out.own.mono (fun q _ hq => by omega)
          exact (h5.sets _ _ _).mono (fun q _ hq => by omega)
    · have e : Hid (canonT (sgOf l) ((noB, sy), F) = (joinN (sgOf l) sy (canonL (sgOf l) F)).getD (constT sy)) := by show _ = _; unfold canonT canon1; rw [if_neg (show ¬ noName ((noB, sy), F).1.1 = false by show ¬ noName noB = false; rw [noName_noB]; simp), if_pos (show (sgOf l).joins ((noB, sy), F).1.2 = true from hj)]
      rw [hj] at HJ
      obtain ⟨W0, hW0⟩ : ∃ W0, (w.alloc (.cells #[.string noB, .int .i64 sy, .slice a (lenF F) c] 26)).alloc (.cells #[.string ⟨#[]⟩, .int .i64 0, .slice none 0 0] 26) = W0 := ⟨_, rfl⟩
      rw [hW0] at HB0 HXt HXr
      obtain ⟨r, hr⟩ : ∃ r, joinN (sgOf l) sy (canonL (sgOf l) F) = r := ⟨_, rfl⟩
      rw [hr] at e HJo
      clear hr
      have t0 := HXt.out.c0; have t1 := HXt.out.c1; have t2 := HXt.out.c2
      have hz0 : W0.heap.size = w.heap.size + 1 + 1 := by rw [← hW0]; simp
      cases r with
      | none =>
        go_enter Try.func46, Try.ntmps46
        go_wp2_with (first
          | (rw [hW0])
          | (go_at_call 67; refine (HJ.out _ HB0.out).mono ?_; rintro e w9 ⟨rfl, hw9⟩; rw [hw9]; clear hw9)
          | (go_at_call 68; refine (HJo.out _ HB0.out).mono ?_; rintro e w2 ⟨⟨a2, c2, rfl, ho2⟩, hb2⟩; have HO2 : Hid (OwnTm false (fun q => w.heap.size + 1 + 1 ≤ q) w2 zeroT.1 a2 c2 zeroT.2) := ho2.mono (fun q _ hq => by rw [hz0] at hq; exact hq); have hba : Below w2.heap.size w2 (w2.alloc (.cells #[.string zeroT.1.1, .int .i64 zeroT.1.2, .slice a2 (lenF zeroT.2) c2] 26)) := (Below.refl _ _).alloc (Nat.le_refl _) _; have HB3 : Hid (Below w.heap.size w (w2.alloc (.cells #[.string zeroT.1.1, .int .i64 zeroT.1.2, .slice a2 (lenF zeroT.2) c2] 26))) := HB0.out.trans ((hb2.trans (hba.mono hb2.size)).mono HB0.out.size); have HO3 : Hid (OwnTm false (fun q => w.heap.size + 1 + 1 ≤ q) (w2.alloc (.cells #[.string zeroT.1.1, .int .i64 zeroT.1.2, .slice a2 (lenF zeroT.2) c2] 26)) zeroT.1 a2 c2 zeroT.2) := HO2.out.below hba; have ht := (HXt.out.below hb2).below hba; have hrr := (HXr.out.below hb2).below hba; have HR3 : Hid (XBox (w2.alloc (.cells #[.string zeroT.1.1, .int .i64 zeroT.1.2, .slice a2 (lenF zeroT.2) c2] 26)) (w.heap.size + 1) (⟨#[]⟩, 0) (.slice none 0 0)) := hrr; have q0 := ht.c0; have q1 := ht.c1; have q2 := ht.c2; have r0 := hrr.c0; have r1 := hrr.c1; have r2 := hrr.c2; have f0 := hrr.f (k := 0); have f1 := hrr.f (k := 1); have f2 := hrr.f (k := 2); clear ht hrr hba ho2 hb2))
        refine bodyPost_ret (results_cell_row rfl _ _ (w.heap.size + 1) 26 #[.string noB, .int .i64 sy, .slice none 0 0] (0, 0) _ rfl (HR3.out.all (x := (noB, sy)) _) Try.underlying26 rfl Try.size26) rfl ?_
        refine ⟨none, 0, by rw [e.out]; rfl, ?_, sets_below HB3.out (by omega) _ _ _⟩
        rw [e.out]
        exact own_nil _ _ (show noB.size ≤ maxLen by decide)
      | some t =>
        go_enter Try.func46, Try.ntmps46
        go_wp2_with (first
          | (rw [hW0])
          | (go_at_call 67; refine (HJ.out _ HB0.out).mono ?_; rintro e w9 ⟨rfl, hw9⟩; rw [hw9]; clear hw9)
          | (go_at_call 68; refine (HJo.out _ HB0.out).mono ?_; rintro e w2 ⟨⟨a2, c2, rfl, ho2⟩, hb2⟩; have HO2 : Hid (OwnTm false (fun q => w.heap.size + 1 + 1 ≤ q) w2 t.1 a2 c2 t.2) := ho2.mono (fun q _ hq => by rw [hz0] at hq; exact hq); have hba : Below w2.heap.size w2 (w2.alloc (.cells #[.string t.1.1, .int .i64 t.1.2, .slice a2 (lenF t.2) c2] 26)) := (Below.refl _ _).alloc (Nat.le_refl _) _; have HB3 : Hid (Below w.heap.size w (w2.alloc (.cells #[.string t.1.1, .int .i64 t.1.2, .slice a2 (lenF t.2) c2] 26))) := HB0.out.trans ((hb2.trans (hba.mono hb2.size)).mono HB0.out.size); have HO3 : Hid (OwnTm false (fun q => w.heap.size + 1 + 1 ≤ q) (w2.alloc (.cells #[.string t.1.1, .int .i64 t.1.2, .slice a2 (lenF t.2) c2] 26)) t.1 a2 c2 t.2) := HO2.out.below hba; have ht := (HXt.out.below hb2).below hba; have hrr := (HXr.out.below hb2).below hba; have HR3 : Hid (XBox (w2.alloc (.cells #[.string t.1.1, .int .i64 t.1.2, .slice a2 (lenF t.2) c2] 26)) (w.heap.size + 1) (⟨#[]⟩, 0) (.slice none 0 0)) := hrr; have q0 := ht.c0; have q1 := ht.c1; have q2 := ht.c2; have r0 := hrr.c0; have r1 := hrr.c1; have r2 := hrr.c2; have f0 := hrr.f (k := 0); have f1 := hrr.f (k := 1); have f2 := hrr.f (k := 2); clear ht hrr hba ho2 hb2))
        refine bodyPost_ret (results_cell_row rfl _ _ (w.heap.size + 1) 26 #[.string t.1.1, .int .i64 t.1.2, .slice a2 (lenF t.2) c2] (0, 0) _ rfl (HR3.out.all (x := t.1) _) Try.underlying26 rfl Try.size26) rfl ?_
        refine ⟨a2, c2, by rw [e.out]; rfl, ?_, sets_below HB3.out (by omega) _ _ _⟩
        rw [e.out]
        exact (HO3.out.sets _ _ _).mono (fun q _ hq => by omega)

set_option maxRecDepth 100000 in
theorem canon_all (S : Option Addr) (n cap : Nat) (l : List Sym) : ∀ k, k ≤ 1048576 → CanonOk S n cap l k := by
  intro k
  induction k using Nat.strongRecOn with
  | _ k ih =>
    intro hk
    have h : ∀ j, j < k → CanonOk S n cap l j := fun j hj => ih j hj (by omega)
    exact canon_of h (join_of hk h)
set_option maxRecDepth 100000 in
theorem join_all (S : Option Addr) (n cap : Nat) (l : List Sym) (k : Nat) (hk : k ≤ 1048576) : JoinOk S n cap l k := join_of hk fun j hj => canon_all S n cap l j (by omega)
end Go.Proofs.Ytfnfbljijkjkjaa
