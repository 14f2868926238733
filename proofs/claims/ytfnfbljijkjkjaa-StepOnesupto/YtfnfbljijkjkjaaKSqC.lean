import Derived.Test.YtfnfbljijkjkjaaKSqB
/- The walk of the document's One where it answers parts. -/
namespace Go.Proofs.Ytfnfbljijkjkjaa
open Go.RowKit Go.Deep

theorem six_one2 (k1 k2 : Kv) : ∀ u ∈ kvCells [k1, k2], u.oneCell' = true := by
  intro u hu
  have e : kvCells [k1, k2] = [.string k1.x.1, .int .i64 k1.x.2, .slice k1.a (lenF k1.l) k1.c, .string k2.x.1, .int .i64 k2.x.2, .slice k2.a (lenF k2.l) k2.c] := rfl
  rw [e] at hu
  simp only [List.mem_cons, List.not_mem_nil, or_false] at hu
  rcases hu with rfl | rfl | rfl | rfl | rfl | rfl <;> rfl
theorem take_zip1 {l m : List Tn} {j : Nat} {x y : Tn} (h1 : l.take (j + 1) = l.take j ++ [x]) (h2 : m.take (j + 1) = m.take j ++ [y]) (hl : (l.take j).length = (m.take j).length) : (l.zip m).take (j + 1) = (l.zip m).take j ++ [(x, y)] := by
  unfold List.zip; rw [List.take_zipWith, List.take_zipWith, h1, h2, List.zipWith_append hl]
  rfl

set_option maxRecDepth 100000 in
set_option maxHeartbeats 4000000 in
theorem rone_parts (S : Option Addr) (n cap : Nat) (sg : List Sym) (xn : ByteArray) (xs : Int) (l : Fo) (yn : ByteArray) (ys : Int) (m : Fo) (a b : Option Addr) (c d : Nat) (w : World) (hG : SigAt w S n sg) (hS : TmAt w (xn, xs) a c l) (hT : TmAt w (yn, ys) b d m)
    (hc0 : (cmpN ((xn, xs), l) ((yn, ys), m) == 0) = false) (hx : noName xn = true) (hy : noName yn = true) (he : ys = xs) (h0 : 0 ≤ xs) (h1 : xs < sg.length) (hk : (kindAt sg xs != 1) = false) (hl : lenF m = lenF l) (hM : lenF l ≤ 1048576) :
    Calls Try.prog 12 #[.slice S n cap, .agg #[.string xn, .int .i64 xs, .slice a (lenF l) c, .string yn, .int .i64 ys, .slice b (lenF m) d]] w fun e w' => (∃ v, e = .returned v ∧ WyAt w' v ⟨4, noS, zT, (kidsL l).zip (kidsL m), 0⟩) ∧ Below w.heap.size w w' := by
  obtain ⟨b2, b3, b4, hb0⟩ := four_new w #[.string xn, .int .i64 xs, .slice a (lenF l) c, .string yn, .int .i64 ys, .slice b (lenF m) d] 28 zWay 36 #[.string xn, .int .i64 xs, .slice a (lenF l) c] 26 #[.string yn, .int .i64 ys, .slice b (lenF m) d] 26
  obtain ⟨i0, hi0, hz0', hz1, hz2⟩ := info_parts Try.info28
  have HS := hid hS; have HT := hid hT
  have hll : ((lenF l : Int) != (lenF m : Int)) = false := by rw [hl]; simp
  have HLL := hid hl
  clear hl
  have H26 := hid fun (W : World) (hW : Below w.heap.size w W) => rsame_any ((xn, xs), l) ((yn, ys), m) a b c d W (hS.below hW) (hT.below hW)
  have HY := hid b2; have HL := hid b3; have HR := hid b4; have HB0 := hid hb0
  have hz0 : Hid (w.heap.size + 4 ≤ ((((w.alloc (.cells #[.string xn, .int .i64 xs, .slice a (lenF l) c, .string yn, .int .i64 ys, .slice b (lenF m) d] 28)).alloc (.cells zWay 36)).alloc (.cells #[.string xn, .int .i64 xs, .slice a (lenF l) c] 26)).alloc (.cells #[.string yn, .int .i64 ys, .slice b (lenF m) d] 26)).heap.size) := hid (by simp)
  obtain ⟨i, rfl⟩ : ∃ i : Nat, xs = i := ⟨xs.toNat, by omega⟩
  subst he
  have hi : i < sg.length := by omega
  have hlen := hG.len
  obtain ⟨sb, off, rfl, hy0⟩ := hG.cells i hi
  have HSY := hid hy0
  have hkk : kindAt sg i = sg[i].kind := by unfold kindAt; rw [Int.toNat_natCast, List.getElem?_eq_getElem hi]
  rw [hkk] at hk
  obtain ⟨kd, hkd⟩ : ∃ kd, sg[i].kind = kd := ⟨_, rfl⟩
  rw [hkd] at hk
  have HCK : Hid (∀ W, Below w.heap.size w W → W.cell? ⟨sb, off + i * 4 + 1, none⟩ = some (.int .i64 kd)) := hid (fun W hW => by rw [← hkd]; exact below_cell hW _ _ hy0.kind)
  have hne : ((i : Int) != (i : Int)) = false := by simp
  have hi2 : (i : Int) < (n : Int) := by omega
  have hi1 : (0 : Int) ≤ (i : Int) := by omega
  clear hkk hkd hy0 HSY hG h0 h1
  unfold noName at hx hy
  rw [hc0] at H26
  clear hS hT b2 b3 b4 hb0 hc0
  dsimp only at *
  go_enter Try.func12, Try.ntmps12
  go_wp2_with (first
      | (go_at_call 26; refine (H26.out _ HB0.out).mono ?_; rintro e w1 ⟨rfl, hb1⟩; have HB1 := hid (HB0.out.trans (hb1.mono HB0.out.size)); have Y1 := HY.out.below hb1; have HY1 := hid Y1; have L1 := HL.out.below hb1; have R1 := HR.out.below hb1; have HL1 := hid L1; have HR1 := hid R1; have l0 := L1.c 0; have l1 := L1.c 1; have l2 := L1.c 2; have q0 := R1.c 0; have q1 := R1.c 1; have q2 := R1.c 2; have ck := HCK.out _ HB1.out; have HZ1 : Hid (w.heap.size + 4 ≤ w1.heap.size) := hid (by have := hb1.size; have := hz0.out; omega); clear hb1 Y1 L1 R1))
  go_loopw [11] (fun iv wr => ∃ (j : Nat) (v : Value) (ks : List Kv), j ≤ lenF l ∧ iv = .int .i64 j ∧ PSt w w1.heap.size #[.string xn, .int .i64 i, .slice a (lenF l) c] #[.string yn, .int .i64 i, .slice b (lenF m) d] wr v j ks ∧ ks.map Kv.tn = flatL (((kidsL l).zip (kidsL m)).take j)) (fun iv _ => lenF l - (intOf iv).toNat)
  case atStart =>
    have hb := alloc_below0 w1 (.cells (outC (.slice none 0 0)) 36)
    exact ⟨0, _, [], Nat.zero_le _, rfl, ⟨HB1.out.trans (hb.mono HB1.out.size), HZ1.out, HY1.out.below hb, HL1.out.below hb, HR1.out.below hb, Box.new w1 36 _, World.ownsRow_nil _ _ _ _, by simp⟩, by simp [flatL]⟩
  case round =>
    obtain ⟨j, v, ks, hj, rfl, hP, hks⟩ := hrel
    have HP := hid hP; have HK := hid hks
    have hlc : wr.cell? ⟨w.heap.size + 1 + 1, 2, none⟩ = some (.slice a (lenF l) c) := hP.l.c 2
    by_cases hlt : j < lenF l
    · obtain ⟨ba, oa, rfl, hka⟩ := HS.out.args.get (by omega)
      obtain ⟨bb, ob, rfl, hkb⟩ := HT.out.args.get (by have := HLL.out; omega)
      obtain ⟨⟨x1n, x1s⟩, a1, c1, l1, kd1⟩ := hka.kid (k := j) hlt
      obtain ⟨⟨x2n, x2s⟩, a2, c2, l2, kd2⟩ := hkb.kid (k := j) (by have := HLL.out; omega)
      have KD1 := hid kd1; have KD2 := hid kd2
      have hba : ba < w.heap.size := World.block_lt_of_cell? w _ kd1.name
      have hbb : bb < w.heap.size := World.block_lt_of_cell? w _ kd2.name
      have HSB : Hid (∀ W : World, (∀ q, q < w1.heap.size → W.heap[q]? = wr.heap[q]?) → W.cell? ⟨w.heap.size + 1 + 1, 2, none⟩ = some (.slice (some ⟨ba, oa, none⟩) (lenF l) c) ∧ W.cell? ⟨w.heap.size + 1 + 1 + 1, 2, none⟩ = some (.slice (some ⟨bb, ob, none⟩) (lenF m) d) ∧ W.cell? ⟨ba, oa + j * 3, none⟩ = some (.string x1n) ∧ W.cell? ⟨ba, oa + j * 3 + 1, none⟩ = some (.int .i64 x1s) ∧ W.cell? ⟨ba, oa + j * 3 + 2, none⟩ = some (.slice a1 (lenF l1) c1) ∧ W.cell? ⟨bb, ob + j * 3, none⟩ = some (.string x2n) ∧ W.cell? ⟨bb, ob + j * 3 + 1, none⟩ = some (.int .i64 x2s) ∧ W.cell? ⟨bb, ob + j * 3 + 2, none⟩ = some (.slice a2 (lenF l2) c2)) := hid (fun W hW => by
        have hz := HZ1.out
        have e1 := hW (w.heap.size + 1 + 1) (by omega); have e2 := hW (w.heap.size + 1 + 1 + 1) (by omega); have e3 := hW ba (by omega); have e4 := hW bb (by omega)
        have k1 := KD1.out.below HP.out.low; have k2 := KD2.out.below HP.out.low
        exact ⟨(World.cell?_of_block e1).trans (HP.out.l.c 2), (World.cell?_of_block e2).trans (HP.out.r.c 2), (World.cell?_of_block e3).trans k1.name, (World.cell?_of_block e3).trans k1.sym, (World.cell?_of_block e3).trans k1.list, (World.cell?_of_block e4).trans k2.name, (World.cell?_of_block e4).trans k2.sym, (World.cell?_of_block e4).trans k2.list⟩)
      have HN0 := hid (HSB.out wr.drew (fun _ _ => rfl))
      have HXL : Hid (w1.heap.size < wr.heap.size) := hid hP.x.lt
      have cX : wr.drew.cell? ⟨w1.heap.size, 5, none⟩ = some v := hP.x.c 5
      have HC1 := hid (rclone_any (x1n, x1s) l1 a1 c1 wr.drew ((KD1.out.below HP.out.low).at_.kept (fun _ _ h => h)))
      have HC2 := hid fun (W : World) (hW : Below wr.heap.size wr W) => rclone_any (x2n, x2s) l2 a2 c2 W ((KD2.out.below HP.out.low).at_.below hW)
      have hk0 : (0 : Int) ≤ (j : Int) := by omega
      have hkn : (j : Int) < (lenF l : Int) := by omega
      have hkm : (j : Int) < (lenF m : Int) := by have := HLL.out; omega
      have hmax : maxLen = 9223372036854775807 := rfl
      clear hP hks hka hkb kd1 kd2
      go_upto_region 30 with fail
      clear hlc
      refine wp_region_held_drew (S := fun w' => w'.cell? ⟨w.heap.size + 1 + 1, 2, none⟩ = some (.slice (some ⟨ba, oa, none⟩) (lenF l) c) ∧ w'.cell? ⟨w.heap.size + 1 + 1 + 1, 2, none⟩ = some (.slice (some ⟨bb, ob, none⟩) (lenF m) d) ∧ w'.cell? ⟨ba, oa + j * 3, none⟩ = some (.string x1n) ∧ w'.cell? ⟨ba, oa + j * 3 + 1, none⟩ = some (.int .i64 x1s) ∧ w'.cell? ⟨ba, oa + j * 3 + 2, none⟩ = some (.slice a1 (lenF l1) c1) ∧ w'.cell? ⟨bb, ob + j * 3, none⟩ = some (.string x2n) ∧ w'.cell? ⟨bb, ob + j * 3 + 1, none⟩ = some (.int .i64 x2s) ∧ w'.cell? ⟨bb, ob + j * 3 + 2, none⟩ = some (.slice a2 (lenF l2) c2)) (by kernel_rfl) HN0.out ?_
      intro hS
      refine wpAnyH_take (i := 0) (v := (.pointer (some ⟨w1.heap.size, 5, none⟩))) rfl (by kernel_rfl) (by kernel_rfl) (by kernel_rfl) (fun _ _ _ h => h) (Or.inl ⟨by rfl, fun w' hw' => ?_⟩) hS ?_
      · go_simp
      simp only [Act.put, List.getElem_toArray, List.getElem_cons_zero, List.setIfInBounds_toArray, List.set_cons_zero, List.set_cons_succ]
      refine wpAnyH_take (i := 2) (v := (.pointer (some ⟨w.heap.size + 1 + 1, 2, none⟩))) rfl (by kernel_rfl) (by kernel_rfl) (by kernel_rfl) (fun _ _ _ h => h) (Or.inl ⟨by rfl, fun w' hw' => ?_⟩) hS ?_
      · go_simp
      simp only [Act.put, List.getElem_toArray, List.getElem_cons_zero, List.getElem_cons_succ, List.setIfInBounds_toArray, List.set_cons_zero, List.set_cons_succ]
      refine wpAnyH_take (i := 3) (v := (.slice (some ⟨ba, oa, none⟩) (lenF l) c)) rfl (by kernel_rfl) (by kernel_rfl) (by kernel_rfl) (fun _ _ _ h => h) (Or.inl ⟨by rfl, fun w' hw' => ?_⟩) hS ?_
      · obtain ⟨s0, s1, s2, s3, s4, s5, s6, s7⟩ := hw'; go_simp
      simp only [Act.put, List.getElem_toArray, List.getElem_cons_zero, List.getElem_cons_succ, List.setIfInBounds_toArray, List.set_cons_zero, List.set_cons_succ]
      refine wpAnyH_take (i := 4) (v := (.int .i64 j)) rfl (by kernel_rfl) (by kernel_rfl) (by kernel_rfl) (fun _ _ _ h => h) (Or.inl ⟨by rfl, fun w' hw' => ?_⟩) hS ?_
      · go_simp
      simp only [Act.put, List.getElem_toArray, List.getElem_cons_zero, List.getElem_cons_succ, List.setIfInBounds_toArray, List.set_cons_zero, List.set_cons_succ]
      refine wpAnyH_take (i := 5) (v := (.pointer (some ⟨ba, oa + j * 3, none⟩))) rfl (by kernel_rfl) (by kernel_rfl) (by kernel_rfl) (fun _ _ _ h => h) (Or.inl ⟨by rfl, fun w' hw' => ?_⟩) hS ?_
      · go_simp
      simp only [Act.put, List.getElem_toArray, List.getElem_cons_zero, List.getElem_cons_succ, List.setIfInBounds_toArray, List.set_cons_zero, List.set_cons_succ]
      refine wpAnyH_take (i := 6) (v := (.agg #[.string x1n, .int .i64 x1s, .slice a1 (lenF l1) c1])) rfl (by kernel_rfl) (by kernel_rfl) (by kernel_rfl) (fun _ _ _ h => h) (Or.inl ⟨by rfl, fun w' hw' => ?_⟩) hS ?_
      · obtain ⟨s0, s1, s2, s3, s4, s5, s6, s7⟩ := hw'; go_simp
      simp only [Act.put, List.getElem_toArray, List.getElem_cons_zero, List.getElem_cons_succ, List.setIfInBounds_toArray, List.set_cons_zero, List.set_cons_succ]
      refine wpAnyH_take (i := 8) (v := (.pointer (some ⟨w.heap.size + 1 + 1 + 1, 2, none⟩))) rfl (by kernel_rfl) (by kernel_rfl) (by kernel_rfl) (fun _ _ _ h => h) (Or.inl ⟨by rfl, fun w' hw' => ?_⟩) hS ?_
      · go_simp
      simp only [Act.put, List.getElem_toArray, List.getElem_cons_zero, List.getElem_cons_succ, List.setIfInBounds_toArray, List.set_cons_zero, List.set_cons_succ]
      refine wpAnyH_take (i := 9) (v := (.slice (some ⟨bb, ob, none⟩) (lenF m) d)) rfl (by kernel_rfl) (by kernel_rfl) (by kernel_rfl) (fun _ _ _ h => h) (Or.inl ⟨by rfl, fun w' hw' => ?_⟩) hS ?_
      · obtain ⟨s0, s1, s2, s3, s4, s5, s6, s7⟩ := hw'; go_simp
      simp only [Act.put, List.getElem_toArray, List.getElem_cons_zero, List.getElem_cons_succ, List.setIfInBounds_toArray, List.set_cons_zero, List.set_cons_succ]
      refine wpAnyH_take (i := 10) (v := (.int .i64 j)) rfl (by kernel_rfl) (by kernel_rfl) (by kernel_rfl) (fun _ _ _ h => h) (Or.inl ⟨by rfl, fun w' hw' => ?_⟩) hS ?_
      · go_simp
      simp only [Act.put, List.getElem_toArray, List.getElem_cons_zero, List.getElem_cons_succ, List.setIfInBounds_toArray, List.set_cons_zero, List.set_cons_succ]
      refine wpAnyH_take (i := 11) (v := (.pointer (some ⟨bb, ob + j * 3, none⟩))) rfl (by kernel_rfl) (by kernel_rfl) (by kernel_rfl) (fun _ _ _ h => h) (Or.inl ⟨by rfl, fun w' hw' => ?_⟩) hS ?_
      · go_simp
      simp only [Act.put, List.getElem_toArray, List.getElem_cons_zero, List.getElem_cons_succ, List.setIfInBounds_toArray, List.set_cons_zero, List.set_cons_succ]
      refine wpAnyH_take (i := 12) (v := (.agg #[.string x2n, .int .i64 x2s, .slice a2 (lenF l2) c2])) rfl (by kernel_rfl) (by kernel_rfl) (by kernel_rfl) (fun _ _ _ h => h) (Or.inl ⟨by rfl, fun w' hw' => ?_⟩) hS ?_
      · obtain ⟨s0, s1, s2, s3, s4, s5, s6, s7⟩ := hw'; go_simp
      simp only [Act.put, List.getElem_toArray, List.getElem_cons_zero, List.getElem_cons_succ, List.setIfInBounds_toArray, List.set_cons_zero, List.set_cons_succ]
      refine wpAnyH_ready (rs := [1, 7]) (by kernel_rfl) (by simp) ?_
      refine AllReadyH.cons rfl (fun K hK => ?_) (AllReadyH.cons rfl (fun K hK => ?_) (AllReadyH.nil))
      · have bq : wr.drew.cell? ⟨w1.heap.size, 5, none⟩ = some v := HP.out.x.c 5
        go_simp
        refine hK.out _ _ (HN0.out) (fun hS => ?_)
        clear hK K bq
        refine wpAnyH_ready (rs := [7]) (by kernel_rfl) (by simp) ?_
        refine AllReadyH.cons rfl (fun K hK => ?_) (AllReadyH.nil)
        go_simp
        refine Calls.mono HC1.out ?_
        rintro e v1 ⟨a3, c3, rfl, ho1, hb1⟩
        have HO1 := hid ho1.own; have HV1 : Hid (Below wr.heap.size wr v1) := hid (((Below.refl _ wr).drew).trans hb1); have HN1 := hid (HSB.out v1 (fun q hq => HV1.out.block q (by have := HXL.out; omega)))
        clear ho1 hb1
        refine hK.out _ _ HN1.out (fun hS => ?_)
        clear hK K
        dsimp only
        refine wpAnyH_ready (rs := [13]) (by kernel_rfl) (by simp) ?_
        refine AllReadyH.cons rfl (fun K hK => ?_) (AllReadyH.nil)
        go_simp
        refine Calls.mono (HC2.out _ HV1.out) ?_
        rintro e v2 ⟨a4, c4, rfl, ho2, hb2⟩
        have HV2 := hid hb2; have HO2 := hid ho2.own; have HB12 : Hid (Below wr.heap.size wr v2) := hid (HV1.out.trans (hb2.mono HV1.out.size)); have HN2 := hid (HSB.out v2 (fun q hq => HB12.out.block q (by have := HXL.out; omega)))
        clear ho2 hb2
        refine hK.out _ _ HN2.out (fun hS => ?_)
        clear hK K
        dsimp only
        refine wpAnyH_take (i := 14) (v := (.agg #[.string x1n, .int .i64 x1s, .slice a3 (lenF l1) c3, .string x2n, .int .i64 x2s, .slice a4 (lenF l2) c4])) rfl (by kernel_rfl) (by kernel_rfl) (by kernel_rfl) (fun _ _ _ h => h) (Or.inl ⟨by rfl, fun w' hw' => ?_⟩) hS ?_
        · go_simp
        simp only [Act.put, List.getElem_toArray, List.getElem_cons_zero, List.getElem_cons_succ, List.setIfInBounds_toArray, List.set_cons_zero, List.set_cons_succ]
        refine wpAnyH_ready (rs := [15]) (by kernel_rfl) (by simp) ?_
        refine AllReadyH.cons rfl (fun K hK => ?_) (AllReadyH.nil)
        go_simp
        refine hK.out _ _ (HSB.out _ (fun q hq => (HB12.out.alloc HB12.out.size _).block q (by have := HXL.out; omega))) (fun hS => ?_)
        clear hK K
        refine wpAnyH_ready (rs := [16]) (by kernel_rfl) (by simp) ?_
        refine AllReadyH.cons rfl (fun K hK => ?_) (AllReadyH.nil)
        refine step_append_lies _ (by rfl) _ _ 34 (by rfl) (w1.heap.size + 1) 28 i0 _ 6 96 Try.underlying34 hi0 hz0' hz1 hz2 rfl (by decide) v j (kvCells ks) (by rfl) (owns_below (owns_below HP.out.row HB12.out) ((Below.refl _ _).alloc (Nat.le_refl _) _)) ⟨v2.heap.size, 0, none⟩ 1 1 (kvCells [⟨(x1n, x1s), l1, a3, c3⟩, ⟨(x2n, x2s), l2, a4, c4⟩]) (by rfl) rfl (World.news_of_block (Box.new v2 28 #[.string x1n, .int .i64 x1s, .slice a3 (lenF l1) c3, .string x2n, .int .i64 x2s, .slice a4 (lenF l2) c4])) (six_one2 _ _) (by decide) (by omega) (by omega) (by have := HB12.out.size; have := HXL.out; simp; omega) _ rfl ?_
        intro g3 cap3 w3 hown3 hgrow3 hat3 hlt3
        have HG3 := hid hgrow3; have HA3 : Hid (v.ownBlock = some g3 ∨ g3 = v2.heap.size + 1) := hid (by simpa using hat3); have HO3 := hid hown3; have HF3 := hid (part_far HP.out HV1.out HV2.out hgrow3); have HX3 : Hid (Box w3 w1.heap.size 36 (outC v)) := hid ((HF3.out.1 _ (by omega)).trans HP.out.x); have vX3 := HX3.out.c 5; have fX3 := HX3.out.f 5
        clear hown3 hgrow3 hat3 hlt3
        refine hK.out _ _ (HSB.out w3 (fun q hq => HF3.out.1 q (by omega))) (fun hS => ?_)
        clear hK K
        simp only [Act.put, List.getElem_toArray, List.getElem_cons_zero, List.getElem_cons_succ, List.setIfInBounds_toArray, List.set_cons_zero, List.set_cons_succ]
        refine wpAnyH_take (i := 17) (v := (.pointer (some ⟨w1.heap.size, 5, none⟩))) rfl (by kernel_rfl) (by kernel_rfl) (by kernel_rfl) (fun _ _ _ h => h) (Or.inl ⟨by rfl, fun w' hw' => ?_⟩) hS ?_
        · go_simp
        simp only [Act.put, List.getElem_toArray, List.getElem_cons_zero, List.getElem_cons_succ, List.setIfInBounds_toArray, List.set_cons_zero, List.set_cons_succ]
        refine wpAnyH_ready (rs := [18]) (by kernel_rfl) (by simp) ?_
        refine AllReadyH.cons rfl (fun K hK => ?_) (AllReadyH.nil)
        go_simp
        refine hK.out _ _ (HSB.out _ (fun q hq => (Below.heap_setCell w3 ⟨w1.heap.size, 5, none⟩ _ q (by show q ≠ w1.heap.size; omega)).trans (HF3.out.1 q (by omega)))) (fun hS => ?_)
        clear hK K
        refine wpAnyH_done (by kernel_rfl) ?_ _
        have HNX := hid (part_step (k1 := ⟨(x1n, x1s), l1, a3, c3⟩) (k2 := ⟨(x2n, x2s), l2, a4, c4⟩) HP.out HV1.out HV2.out HO1.out HO2.out HG3.out HA3.out HO3.out)
        clear vX3 fX3 hS
        go_wp2_with fail
        go_roundw
        case rel =>
          refine ⟨j + 1, _, _, by omega, by go_num, HNX.out, ?_⟩
          obtain ⟨B1, O1, sp1⟩ := KD1.out.split
          obtain ⟨B2, O2, sp2⟩ := KD2.out.split
          have t1 := kids_take sp1
          have t2 := kids_take sp2
          rw [List.map_append, HK.out, take_zip1 t1 t2 (by rw [List.length_take, List.length_take, kids_len, kids_len]; have := HLL.out; omega), flat_snoc]
          rfl
        case measure => simp [intOf]; omega
      · go_simp
        refine Calls.mono HC1.out ?_
        rintro e v1 ⟨a3, c3, rfl, ho1, hb1⟩
        have HO1 := hid ho1.own; have HV1 : Hid (Below wr.heap.size wr v1) := hid (((Below.refl _ wr).drew).trans hb1); have HN1 := hid (HSB.out v1 (fun q hq => HV1.out.block q (by have := HXL.out; omega)))
        clear ho1 hb1
        refine hK.out _ _ HN1.out (fun hS => ?_)
        clear hK K
        dsimp only
        refine wpAnyH_ready (rs := [1, 13]) (by kernel_rfl) (by simp) ?_
        refine AllReadyH.cons rfl (fun K hK => ?_) (AllReadyH.cons rfl (fun K hK => ?_) (AllReadyH.nil))
        · have bq : v1.cell? ⟨w1.heap.size, 5, none⟩ = some v := (HP.out.x.below HV1.out).c 5
          go_simp
          refine hK.out _ _ (HN1.out) (fun hS => ?_)
          clear hK K bq
          refine wpAnyH_ready (rs := [13]) (by kernel_rfl) (by simp) ?_
          refine AllReadyH.cons rfl (fun K hK => ?_) (AllReadyH.nil)
          go_simp
          refine Calls.mono (HC2.out _ HV1.out) ?_
          rintro e v2 ⟨a4, c4, rfl, ho2, hb2⟩
          have HV2 := hid hb2; have HO2 := hid ho2.own; have HB12 : Hid (Below wr.heap.size wr v2) := hid (HV1.out.trans (hb2.mono HV1.out.size)); have HN2 := hid (HSB.out v2 (fun q hq => HB12.out.block q (by have := HXL.out; omega)))
          clear ho2 hb2
          refine hK.out _ _ HN2.out (fun hS => ?_)
          clear hK K
          dsimp only
          refine wpAnyH_take (i := 14) (v := (.agg #[.string x1n, .int .i64 x1s, .slice a3 (lenF l1) c3, .string x2n, .int .i64 x2s, .slice a4 (lenF l2) c4])) rfl (by kernel_rfl) (by kernel_rfl) (by kernel_rfl) (fun _ _ _ h => h) (Or.inl ⟨by rfl, fun w' hw' => ?_⟩) hS ?_
          · go_simp
          simp only [Act.put, List.getElem_toArray, List.getElem_cons_zero, List.getElem_cons_succ, List.setIfInBounds_toArray, List.set_cons_zero, List.set_cons_succ]
          refine wpAnyH_ready (rs := [15]) (by kernel_rfl) (by simp) ?_
          refine AllReadyH.cons rfl (fun K hK => ?_) (AllReadyH.nil)
          go_simp
          refine hK.out _ _ (HSB.out _ (fun q hq => (HB12.out.alloc HB12.out.size _).block q (by have := HXL.out; omega))) (fun hS => ?_)
          clear hK K
          refine wpAnyH_ready (rs := [16]) (by kernel_rfl) (by simp) ?_
          refine AllReadyH.cons rfl (fun K hK => ?_) (AllReadyH.nil)
          refine step_append_lies _ (by rfl) _ _ 34 (by rfl) (w1.heap.size + 1) 28 i0 _ 6 96 Try.underlying34 hi0 hz0' hz1 hz2 rfl (by decide) v j (kvCells ks) (by rfl) (owns_below (owns_below HP.out.row HB12.out) ((Below.refl _ _).alloc (Nat.le_refl _) _)) ⟨v2.heap.size, 0, none⟩ 1 1 (kvCells [⟨(x1n, x1s), l1, a3, c3⟩, ⟨(x2n, x2s), l2, a4, c4⟩]) (by rfl) rfl (World.news_of_block (Box.new v2 28 #[.string x1n, .int .i64 x1s, .slice a3 (lenF l1) c3, .string x2n, .int .i64 x2s, .slice a4 (lenF l2) c4])) (six_one2 _ _) (by decide) (by omega) (by omega) (by have := HB12.out.size; have := HXL.out; simp; omega) _ rfl ?_
          intro g3 cap3 w3 hown3 hgrow3 hat3 hlt3
          have HG3 := hid hgrow3; have HA3 : Hid (v.ownBlock = some g3 ∨ g3 = v2.heap.size + 1) := hid (by simpa using hat3); have HO3 := hid hown3; have HF3 := hid (part_far HP.out HV1.out HV2.out hgrow3); have HX3 : Hid (Box w3 w1.heap.size 36 (outC v)) := hid ((HF3.out.1 _ (by omega)).trans HP.out.x); have vX3 := HX3.out.c 5; have fX3 := HX3.out.f 5
          clear hown3 hgrow3 hat3 hlt3
          refine hK.out _ _ (HSB.out w3 (fun q hq => HF3.out.1 q (by omega))) (fun hS => ?_)
          clear hK K
          simp only [Act.put, List.getElem_toArray, List.getElem_cons_zero, List.getElem_cons_succ, List.setIfInBounds_toArray, List.set_cons_zero, List.set_cons_succ]
          refine wpAnyH_take (i := 17) (v := (.pointer (some ⟨w1.heap.size, 5, none⟩))) rfl (by kernel_rfl) (by kernel_rfl) (by kernel_rfl) (fun _ _ _ h => h) (Or.inl ⟨by rfl, fun w' hw' => ?_⟩) hS ?_
          · go_simp
          simp only [Act.put, List.getElem_toArray, List.getElem_cons_zero, List.getElem_cons_succ, List.setIfInBounds_toArray, List.set_cons_zero, List.set_cons_succ]
          refine wpAnyH_ready (rs := [18]) (by kernel_rfl) (by simp) ?_
          refine AllReadyH.cons rfl (fun K hK => ?_) (AllReadyH.nil)
          go_simp
          refine hK.out _ _ (HSB.out _ (fun q hq => (Below.heap_setCell w3 ⟨w1.heap.size, 5, none⟩ _ q (by show q ≠ w1.heap.size; omega)).trans (HF3.out.1 q (by omega)))) (fun hS => ?_)
          clear hK K
          refine wpAnyH_done (by kernel_rfl) ?_ _
          have HNX := hid (part_step (k1 := ⟨(x1n, x1s), l1, a3, c3⟩) (k2 := ⟨(x2n, x2s), l2, a4, c4⟩) HP.out HV1.out HV2.out HO1.out HO2.out HG3.out HA3.out HO3.out)
          clear vX3 fX3 hS
          go_wp2_with fail
          go_roundw
          case rel =>
            refine ⟨j + 1, _, _, by omega, by go_num, HNX.out, ?_⟩
            obtain ⟨B1, O1, sp1⟩ := KD1.out.split
            obtain ⟨B2, O2, sp2⟩ := KD2.out.split
            have t1 := kids_take sp1
            have t2 := kids_take sp2
            rw [List.map_append, HK.out, take_zip1 t1 t2 (by rw [List.length_take, List.length_take, kids_len, kids_len]; have := HLL.out; omega), flat_snoc]
            rfl
          case measure => simp [intOf]; omega
        · go_simp
          refine Calls.mono (HC2.out _ HV1.out) ?_
          rintro e v2 ⟨a4, c4, rfl, ho2, hb2⟩
          have HV2 := hid hb2; have HO2 := hid ho2.own; have HB12 : Hid (Below wr.heap.size wr v2) := hid (HV1.out.trans (hb2.mono HV1.out.size)); have HN2 := hid (HSB.out v2 (fun q hq => HB12.out.block q (by have := HXL.out; omega)))
          clear ho2 hb2
          refine hK.out _ _ HN2.out (fun hS => ?_)
          clear hK K
          dsimp only
          refine wpAnyH_take (i := 14) (v := (.agg #[.string x1n, .int .i64 x1s, .slice a3 (lenF l1) c3, .string x2n, .int .i64 x2s, .slice a4 (lenF l2) c4])) rfl (by kernel_rfl) (by kernel_rfl) (by kernel_rfl) (fun _ _ _ h => h) (Or.inl ⟨by rfl, fun w' hw' => ?_⟩) hS ?_
          · go_simp
          simp only [Act.put, List.getElem_toArray, List.getElem_cons_zero, List.getElem_cons_succ, List.setIfInBounds_toArray, List.set_cons_zero, List.set_cons_succ]
          refine wpAnyH_ready (rs := [1, 15]) (by kernel_rfl) (by simp) ?_
          refine AllReadyH.cons rfl (fun K hK => ?_) (AllReadyH.cons rfl (fun K hK => ?_) (AllReadyH.nil))
          · have bq : v2.cell? ⟨w1.heap.size, 5, none⟩ = some v := (HP.out.x.below HB12.out).c 5
            go_simp
            refine hK.out _ _ (HN2.out) (fun hS => ?_)
            clear hK K bq
            refine wpAnyH_ready (rs := [15]) (by kernel_rfl) (by simp) ?_
            refine AllReadyH.cons rfl (fun K hK => ?_) (AllReadyH.nil)
            go_simp
            refine hK.out _ _ (HSB.out _ (fun q hq => (HB12.out.alloc HB12.out.size _).block q (by have := HXL.out; omega))) (fun hS => ?_)
            clear hK K
            refine wpAnyH_ready (rs := [16]) (by kernel_rfl) (by simp) ?_
            refine AllReadyH.cons rfl (fun K hK => ?_) (AllReadyH.nil)
            refine step_append_lies _ (by rfl) _ _ 34 (by rfl) (w1.heap.size + 1) 28 i0 _ 6 96 Try.underlying34 hi0 hz0' hz1 hz2 rfl (by decide) v j (kvCells ks) (by rfl) (owns_below (owns_below HP.out.row HB12.out) ((Below.refl _ _).alloc (Nat.le_refl _) _)) ⟨v2.heap.size, 0, none⟩ 1 1 (kvCells [⟨(x1n, x1s), l1, a3, c3⟩, ⟨(x2n, x2s), l2, a4, c4⟩]) (by rfl) rfl (World.news_of_block (Box.new v2 28 #[.string x1n, .int .i64 x1s, .slice a3 (lenF l1) c3, .string x2n, .int .i64 x2s, .slice a4 (lenF l2) c4])) (six_one2 _ _) (by decide) (by omega) (by omega) (by have := HB12.out.size; have := HXL.out; simp; omega) _ rfl ?_
            intro g3 cap3 w3 hown3 hgrow3 hat3 hlt3
            have HG3 := hid hgrow3; have HA3 : Hid (v.ownBlock = some g3 ∨ g3 = v2.heap.size + 1) := hid (by simpa using hat3); have HO3 := hid hown3; have HF3 := hid (part_far HP.out HV1.out HV2.out hgrow3); have HX3 : Hid (Box w3 w1.heap.size 36 (outC v)) := hid ((HF3.out.1 _ (by omega)).trans HP.out.x); have vX3 := HX3.out.c 5; have fX3 := HX3.out.f 5
            clear hown3 hgrow3 hat3 hlt3
            refine hK.out _ _ (HSB.out w3 (fun q hq => HF3.out.1 q (by omega))) (fun hS => ?_)
            clear hK K
            simp only [Act.put, List.getElem_toArray, List.getElem_cons_zero, List.getElem_cons_succ, List.setIfInBounds_toArray, List.set_cons_zero, List.set_cons_succ]
            refine wpAnyH_take (i := 17) (v := (.pointer (some ⟨w1.heap.size, 5, none⟩))) rfl (by kernel_rfl) (by kernel_rfl) (by kernel_rfl) (fun _ _ _ h => h) (Or.inl ⟨by rfl, fun w' hw' => ?_⟩) hS ?_
            · go_simp
            simp only [Act.put, List.getElem_toArray, List.getElem_cons_zero, List.getElem_cons_succ, List.setIfInBounds_toArray, List.set_cons_zero, List.set_cons_succ]
            refine wpAnyH_ready (rs := [18]) (by kernel_rfl) (by simp) ?_
            refine AllReadyH.cons rfl (fun K hK => ?_) (AllReadyH.nil)
            go_simp
            refine hK.out _ _ (HSB.out _ (fun q hq => (Below.heap_setCell w3 ⟨w1.heap.size, 5, none⟩ _ q (by show q ≠ w1.heap.size; omega)).trans (HF3.out.1 q (by omega)))) (fun hS => ?_)
            clear hK K
            refine wpAnyH_done (by kernel_rfl) ?_ _
            have HNX := hid (part_step (k1 := ⟨(x1n, x1s), l1, a3, c3⟩) (k2 := ⟨(x2n, x2s), l2, a4, c4⟩) HP.out HV1.out HV2.out HO1.out HO2.out HG3.out HA3.out HO3.out)
            clear vX3 fX3 hS
            go_wp2_with fail
            go_roundw
            case rel =>
              refine ⟨j + 1, _, _, by omega, by go_num, HNX.out, ?_⟩
              obtain ⟨B1, O1, sp1⟩ := KD1.out.split
              obtain ⟨B2, O2, sp2⟩ := KD2.out.split
              have t1 := kids_take sp1
              have t2 := kids_take sp2
              rw [List.map_append, HK.out, take_zip1 t1 t2 (by rw [List.length_take, List.length_take, kids_len, kids_len]; have := HLL.out; omega), flat_snoc]
              rfl
            case measure => simp [intOf]; omega
          · go_simp
            refine hK.out _ _ (HSB.out _ (fun q hq => (HB12.out.alloc HB12.out.size _).block q (by have := HXL.out; omega))) (fun hS => ?_)
            clear hK K
            refine wpAnyH_ready (rs := [1]) (by kernel_rfl) (by simp) ?_
            refine AllReadyH.cons rfl (fun K hK => ?_) (AllReadyH.nil)
            have bq : (v2.alloc (.cells #[.string x1n, .int .i64 x1s, .slice a3 (lenF l1) c3, .string x2n, .int .i64 x2s, .slice a4 (lenF l2) c4] 28)).cell? ⟨w1.heap.size, 5, none⟩ = some v := (HP.out.x.below (HB12.out.alloc HB12.out.size _)).c 5
            go_simp
            refine hK.out _ _ (hS) (fun hS => ?_)
            clear hK K bq
            refine wpAnyH_ready (rs := [16]) (by kernel_rfl) (by simp) ?_
            refine AllReadyH.cons rfl (fun K hK => ?_) (AllReadyH.nil)
            refine step_append_lies _ (by rfl) _ _ 34 (by rfl) (w1.heap.size + 1) 28 i0 _ 6 96 Try.underlying34 hi0 hz0' hz1 hz2 rfl (by decide) v j (kvCells ks) (by rfl) (owns_below (owns_below HP.out.row HB12.out) ((Below.refl _ _).alloc (Nat.le_refl _) _)) ⟨v2.heap.size, 0, none⟩ 1 1 (kvCells [⟨(x1n, x1s), l1, a3, c3⟩, ⟨(x2n, x2s), l2, a4, c4⟩]) (by rfl) rfl (World.news_of_block (Box.new v2 28 #[.string x1n, .int .i64 x1s, .slice a3 (lenF l1) c3, .string x2n, .int .i64 x2s, .slice a4 (lenF l2) c4])) (six_one2 _ _) (by decide) (by omega) (by omega) (by have := HB12.out.size; have := HXL.out; simp; omega) _ rfl ?_
            intro g3 cap3 w3 hown3 hgrow3 hat3 hlt3
            have HG3 := hid hgrow3; have HA3 : Hid (v.ownBlock = some g3 ∨ g3 = v2.heap.size + 1) := hid (by simpa using hat3); have HO3 := hid hown3; have HF3 := hid (part_far HP.out HV1.out HV2.out hgrow3); have HX3 : Hid (Box w3 w1.heap.size 36 (outC v)) := hid ((HF3.out.1 _ (by omega)).trans HP.out.x); have vX3 := HX3.out.c 5; have fX3 := HX3.out.f 5
            clear hown3 hgrow3 hat3 hlt3
            refine hK.out _ _ (HSB.out w3 (fun q hq => HF3.out.1 q (by omega))) (fun hS => ?_)
            clear hK K
            simp only [Act.put, List.getElem_toArray, List.getElem_cons_zero, List.getElem_cons_succ, List.setIfInBounds_toArray, List.set_cons_zero, List.set_cons_succ]
            refine wpAnyH_take (i := 17) (v := (.pointer (some ⟨w1.heap.size, 5, none⟩))) rfl (by kernel_rfl) (by kernel_rfl) (by kernel_rfl) (fun _ _ _ h => h) (Or.inl ⟨by rfl, fun w' hw' => ?_⟩) hS ?_
            · go_simp
            simp only [Act.put, List.getElem_toArray, List.getElem_cons_zero, List.getElem_cons_succ, List.setIfInBounds_toArray, List.set_cons_zero, List.set_cons_succ]
            refine wpAnyH_ready (rs := [18]) (by kernel_rfl) (by simp) ?_
            refine AllReadyH.cons rfl (fun K hK => ?_) (AllReadyH.nil)
            go_simp
            refine hK.out _ _ (HSB.out _ (fun q hq => (Below.heap_setCell w3 ⟨w1.heap.size, 5, none⟩ _ q (by show q ≠ w1.heap.size; omega)).trans (HF3.out.1 q (by omega)))) (fun hS => ?_)
            clear hK K
            refine wpAnyH_done (by kernel_rfl) ?_ _
            have HNX := hid (part_step (k1 := ⟨(x1n, x1s), l1, a3, c3⟩) (k2 := ⟨(x2n, x2s), l2, a4, c4⟩) HP.out HV1.out HV2.out HO1.out HO2.out HG3.out HA3.out HO3.out)
            clear vX3 fX3 hS
            go_wp2_with fail
            go_roundw
            case rel =>
              refine ⟨j + 1, _, _, by omega, by go_num, HNX.out, ?_⟩
              obtain ⟨B1, O1, sp1⟩ := KD1.out.split
              obtain ⟨B2, O2, sp2⟩ := KD2.out.split
              have t1 := kids_take sp1
              have t2 := kids_take sp2
              rw [List.map_append, HK.out, take_zip1 t1 t2 (by rw [List.length_take, List.length_take, kids_len, kids_len]; have := HLL.out; omega), flat_snoc]
              rfl
            case measure => simp [intOf]; omega
    · have hjl : j = lenF l := by omega
      subst hjl
      have hzl : ((kidsL l).zip (kidsL m)).length = lenF l := by rw [List.length_zip, kids_len, kids_len, HLL.out, Nat.min_self]
      rw [show ((kidsL l).zip (kidsL m)).take (lenF l) = (kidsL l).zip (kidsL m) from List.take_of_length_le (by omega)] at hks
      obtain ⟨la, lc, rfl, hwy⟩ := part_end hP hzl hks
      have HW := hid hwy
      have x0 := hP.x.c 0; have x1 := hP.x.c 1; have x2 := hP.x.c 2; have x3 := hP.x.c 3; have x4 := hP.x.c 4; have x5 := hP.x.c 5; have x6 := hP.x.c 6
      have r0 := hP.y.c 0; have r1 := hP.y.c 1; have r2 := hP.y.c 2; have r3 := hP.y.c 3; have r4 := hP.y.c 4; have r5 := hP.y.c 5; have r6 := hP.y.c 6
      have g0 := hP.y.f 0; have g1 := hP.y.f 1; have g2 := hP.y.f 2; have g3 := hP.y.f 3; have g4 := hP.y.f 4; have g5 := hP.y.f 5; have g6 := hP.y.f 6
      clear hP hks hwy
      go_wp2_with fail
      refine bodyPost_ret (results_cell_row rfl _ _ (w.heap.size + 1) 36 (wayC 4 noS (noS, 0) none 0 0 la (lenF l) lc 0) (0, 0) _ rfl (box7_all HP.out.y _ _ _ _ _ _ _) Try.underlying36 rfl Try.size36) rfl ?_
      exact ⟨⟨_, rfl, HW.out _ (fun q hq => sets7_far (by have := HZ1.out; omega) _ _ _ _ _ _ _)⟩, sets7_below HP.out.low (by omega) _ _ _ _ _ _ _⟩
end Go.Proofs.Ytfnfbljijkjkjaa
