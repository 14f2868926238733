import Derived.Test.YtfnfbljijkjkjaaKUhW
/- The walk of the document's One where it answers parts. -/
namespace Go.Proofs.Ytfnfbljijkjkjaa
open Go.RowKit Go.Deep

theorem six_one2 (k1 k2 : Kv) : ∀ u ∈ kvCells [k1, k2], u.oneCell' = true := by
  intro u hu
  have e : kvCells [k1, k2] = [.string k1.x.1, .int .i64 k1.x.2, .slice k1.a (lenF k1.l) k1.c, .string k2.x.1, .int .i64 k2.x.2, .slice k2.a (lenF k2.l) k2.c] := rfl
  rw [e] at hu
  simp only [List.mem_cons, List.not_mem_nil, or_false] at hu
  rcases hu with rfl | rfl | rfl | rfl | rfl | rfl <;> rfl
theorem take_zip1 {l m : List Tn} {j : Nat} {x y : Tn} (h1 : l.take (j + 1) = l.take j ++ [x]) (h2 : m.take (j + 1) = m.take j ++ [y]) (hl : (l.take j).length = (m.take j).length) : (l.zip m).take (j + 1) = (l.zip m).take j ++ [(x, y)] := by
  unfold List.zip; rw [List.take_zipWith, List.take_zipWith, h1, h2, List.zipWith_append hl]
  rfl

set_option maxRecDepth 100000 in
set_option maxHeartbeats 4000000 in
theorem rone_parts (S : Option Addr) (n cap : Nat) (sg : List Sym) (xn : ByteArray) (xs : Int) (l : Fo) (yn : ByteArray) (ys : Int) (m : Fo) (a b : Option Addr) (c d : Nat) (w : World) (hG : SigAt w S n sg) (hS : TmAt w (xn, xs) a c l) (hT : TmAt w (yn, ys) b d m)
    (hc0 : (cmpN ((xn, xs), l) ((yn, ys), m) == 0) = false) (hx : noName xn = true) (hy : noName yn = true) (he : ys = xs) (h0 : 0 ≤ xs) (h1 : xs < sg.length) (hk : (kindAt sg xs != 1) = false) (hl : lenF m = lenF l) (hM : lenF l ≤ 1048576) :
    Calls Try.prog 12 #[.slice S n cap, .agg #[.string xn, .int .i64 xs, .slice a (lenF l) c, .string yn, .int .i64 ys, .slice b (lenF m) d]] w fun e w' => (∃ v, e = .returned v ∧ WyAt w' v ⟨4, noS, zT, (kidsL l).zip (kidsL m), 0⟩) ∧ Below w.heap.size w w' := by
  obtain ⟨b2, b3, b4, hb0⟩ := four_new w #[.string xn, .int .i64 xs, .slice a (lenF l) c, .string yn, .int .i64 ys, .slice b (lenF m) d] 28 zWay 36 #[.string xn, .int .i64 xs, .slice a (lenF l) c] 26 #[.string yn, .int .i64 ys, .slice b (lenF m) d] 26
  obtain ⟨i0, hi0, hz0', hz1, hz2⟩ := info_parts Try.info28
  have HS := hid hS; have HT := hid hT
  have hll : ((lenF l : Int) != (lenF m : Int)) = false := by rw [hl]; simp
  have HLL := hid hl
  clear hl
  have H26 := hid fun (W : World) (hW : Below w.heap.size w W) => rsame_any ((xn, xs), l) ((yn, ys), m) a b c d W (hS.below hW) (hT.below hW)
  have HY := hid b2; have HL := hid b3; have HR := hid b4; have HB0 := hid hb0
  have hz0 : Hid (w.heap.size + 4 ≤ ((((w.alloc (.cells #[.string xn, .int .i64 xs, .slice a (lenF l) c, .string yn, .int .i64 ys, .slice b (lenF m) d] 28)).alloc (.cells zWay 36)).alloc (.cells #[.string xn, .int .i64 xs, .slice a (lenF l) c] 26)).alloc (.cells #[.string yn, .int .i64 ys, .slice b (lenF m) d] 26)).heap.size) := hid (by simp)
  obtain ⟨i, rfl⟩ : ∃ i : Nat, xs = i := ⟨xs.toNat, by omega⟩
  subst he
  have hi : i < sg.length := by omega
  have hlen := hG.len
  obtain ⟨sb, off, rfl, hy0⟩ := hG.cells i hi
  have HSY := hid hy0
  have hkk : kindAt sg i = sg[i].kind := by unfold kindAt; rw [Int.toNat_natCast, List.getElem?_eq_getElem hi]
  rw [hkk] at hk
  obtain ⟨kd, hkd⟩ : ∃ kd, sg[i].kind = kd := ⟨_, rfl⟩
  rw [hkd] at hk
  have HCK : Hid (∀ W, Below w.heap.size w W → W.cell? ⟨sb, off + i * 4 + 1, none⟩ = some (.int .i64 kd)) := hid (fun W hW => by rw [← hkd]; exact below_cell hW _ _ hy0.kind)
  have hne : ((i : Int) != (i : Int)) = false := by simp
  have hi2 : (i : Int) < (n : Int) := by omega
  have hi1 : (0 : Int) ≤ (i : Int) := by omega
  clear hkk hkd hy0 HSY hG h0 h1
  unfold noName at hx hy
  rw [hc0] at H26
  clear hS hT b2 b3 b4 hb0 hc0
  dsimp only at *
  go_enter Try.func12, Try.ntmps12
  go_wp2_with (first
      | (go_at_call 26; refine (H26.out _ HB0.out).mono ?_; rintro e w1 ⟨rfl, hb1⟩; have HB1 := hid (HB0.out.trans (hb1.mono HB0.out.size)); have Y1 := HY.out.below hb1; have HY1 := hid Y1; have L1 := HL.out.below hb1; have R1 := HR.out.below hb1; have HL1 := hid L1; have HR1 := hid R1; have l0 := L1.c 0; have l1 := L1.c 1; have l2 := L1.c 2; have q0 := R1.c 0; have q1 := R1.c 1; have q2 := R1.c 2; have ck := HCK.out _ HB1.out; have HZ1 : Hid (w.heap.size + 4 ≤ w1.heap.size) := hid (by have := hb1.size; have := hz0.out; omega); clear hb1 Y1 L1 R1))
  go_loopw [11] (fun iv wr => ∃ (j : Nat) (v : Value) (ks : List Kv), j ≤ lenF l ∧ iv = .int .i64 j ∧ PSt w w1.heap.size #[.string xn, .int .i64 i, .slice a (lenF l) c] #[.string yn, .int .i64 i, .slice b (lenF m) d] wr v j ks ∧ ks.map Kv.tn = flatL (((kidsL l).zip (kidsL m)).take j)) (fun iv _ => lenF l - (intOf iv).toNat)
  case atStart =>
    have hb := alloc_below0 w1 (.cells (outC (.slice none 0 0)) 36)
    exact ⟨0, _, [], Nat.zero_le _, rfl, ⟨HB1.out.trans (hb.mono HB1.out.size), HZ1.out, HY1.out.below hb, HL1.out.below hb, HR1.out.below hb, Box.new w1 36 _, World.ownsRow_nil _ _ _ _, by simp⟩, by simp [flatL]⟩
  case round =>
    obtain ⟨j, v, ks, hj, rfl, hP, hks⟩ := hrel
    have HP := hid hP; have HK := hid hks
    have hlc : wr.cell? ⟨w.heap.size + 1 + 1, 2, none⟩ = some (.slice a (lenF l) c) := hP.l.c 2
    by_cases hlt : j < lenF l
    · obtain ⟨ba, oa, rfl, hka⟩ := HS.out.args.get (by omega)
      obtain ⟨bb, ob, rfl, hkb⟩ := HT.out.args.get (by have := HLL.out; omega)
      obtain ⟨⟨x1n, x1s⟩, a1, c1, l1, kd1⟩ := hka.kid (k := j) hlt
      obtain ⟨⟨x2n, x2s⟩, a2, c2, l2, kd2⟩ := hkb.kid (k := j) (by have := HLL.out; omega)
      have KD1 := hid kd1; have KD2 := hid kd2
      have hba : ba < w.heap.size := World.block_lt_of_cell? w _ kd1.name
      have hbb : bb < w.heap.size := World.block_lt_of_cell? w _ kd2.name
      have HSB : Hid (∀ W : World, (∀ q, q < w1.heap.size → W.heap[q]? = wr.heap[q]?) → W.cell? ⟨w.heap.size + 1 + 1, 2, none⟩ = some (.slice (some ⟨ba, oa, none⟩) (lenF l) c) ∧ W.cell? ⟨w.heap.size + 1 + 1 + 1, 2, none⟩ = some (.slice (some ⟨bb, ob, none⟩) (lenF m) d) ∧ W.cell? ⟨ba, oa + j * 3, none⟩ = some (.string x1n) ∧ W.cell? ⟨ba, oa + j * 3 + 1, none⟩ = some (.int .i64 x1s) ∧ W.cell? ⟨ba, oa + j * 3 + 2, none⟩ = some (.slice a1 (lenF l1) c1) ∧ W.cell? ⟨bb, ob + j * 3, none⟩ = some (.string x2n) ∧ W.cell? ⟨bb, ob + j * 3 + 1, none⟩ = some (.int .i64 x2s) ∧ W.cell? ⟨bb, ob + j * 3 + 2, none⟩ = some (.slice a2 (lenF l2) c2)) := hid (fun W hW => by
        have hz := HZ1.out
        have e1 := hW (w.heap.size + 1 + 1) (by omega); have e2 := hW (w.heap.size + 1 + 1 + 1) (by omega); have e3 := hW ba (by omega); have e4 := hW bb (by omega)
        have k1 := KD1.out.below HP.out.low; have k2 := KD2.out.below HP.out.low
        exact ⟨(World.cell?_of_block e1).trans (HP.out.l.c 2), (World.cell?_of_block e2).trans (HP.out.r.c 2), (World.cell?_of_block e3).trans k1.name, (World.cell?_of_block e3).trans k1.sym, (World.cell?_of_block e3).trans k1.list, (World.cell?_of_block e4).trans k2.name, (World.cell?_of_block e4).trans k2.sym, (World.cell?_of_block e4).trans k2.list⟩)
      have HN0 := hid (HSB.out wr.drew (fun _ _ => rfl))
      have HXL : Hid (w1.heap.size < wr.heap.size) := hid hP.x.lt
      have cX : wr.drew.cell? ⟨w1.heap.size, 5, none⟩ = some v := hP.x.c 5
      have HC1 := hid (rclone_any (x1n, x1s) l1 a1 c1 wr.drew ((KD1.out.below HP.out.low).at_.kept (fun _ _ h => h)))
      have HC2 := hid fun (W : World) (hW : Below wr.heap.size wr W) => rclone_any (x2n, x2s) l2 a2 c2 W ((KD2.out.below HP.out.low).at_.below hW)
      have hk0 : (0 : Int) ≤ (j : Int) := by omega
      have hkn : (j : Int) < (lenF l : Int) := by omega
      have hkm : (j : Int) < (lenF m : Int) := by have := HLL.out; omega
      have hmax : maxLen = 9223372036854775807 := rfl
      clear hP hks hka hkb kd1 kd2
      go_upto_region 30 with fail
      clear hlc
      refine wp_region_held_drew (S := fun w' => w'.cell? ⟨w.heap.size + 1 + 1, 2, none⟩ = some (.slice (some ⟨ba, oa, none⟩) (lenF l) c) ∧ w'.cell? ⟨w.heap.size + 1 + 1 + 1, 2, none⟩ = some (.slice (some ⟨bb, ob, none⟩) (lenF m) d) ∧ w'.cell? ⟨ba, oa + j * 3, none⟩ = some (.string x1n) ∧ w'.cell? ⟨ba, oa + j * 3 + 1, none⟩ = some (.int .i64 x1s) ∧ w'.cell? ⟨ba, oa + j * 3 + 2, none⟩ = some (.slice a1 (lenF l1) c1) ∧ w'.cell? ⟨bb, ob + j * 3, none⟩ = some (.string x2n) ∧ w'.cell? ⟨bb, ob + j * 3 + 1, none⟩ = some (.int .i64 x2s) ∧ w'.cell? ⟨bb, ob + j * 3 + 2, none⟩ = some (.slice a2 (lenF l2) c2)) (by kernel_rfl) HN0.out ?_
      intro hS
      refine wpAnyH_take (i := 0) (v := (.pointer (some ⟨w1.heap.size, 5, none⟩))) rfl (by kernel_rfl) (by kernel_rfl) (by kernel_rfl) (fun _ _ _ h => h) (Or.inl ⟨by rfl, fun w' hw' => ?_⟩) hS ?_
      · go_simp
      simp only [Act.put, List.getElem_toArray, List.getElem_cons_zero, List.setIfInBounds_toArray, List.set_cons_zero, List.set_cons_succ]
      refine wpAnyH_take (i := 2) (v := (.pointer (some ⟨w.heap.size + 1 + 1, 2, none⟩))) rfl (by kernel_rfl) (by kernel_rfl) (by kernel_rfl) (fun _ _ _ h => h) (Or.inl ⟨by rfl, fun w' hw' => ?_⟩) hS ?_
      · go_simp
      simp only [Act.put, List.getElem_toArray, List.getElem_cons_zero, List.getElem_cons_succ, List.setIfInBounds_toArray, List.set_cons_zero, List.set_cons_succ]
      refine wpAnyH_take (i := 3) (v := (.slice (some ⟨ba, oa, none⟩) (lenF l) c)) rfl (by kernel_rfl) (by kernel_rfl) (by kernel_rfl) (fun _ _ _ h => h) (Or.inl ⟨by rfl, fun w' hw' => ?_⟩) hS ?_
      · obtain ⟨s0, s1, s2, s3, s4, s5, s6, s7⟩ := hw'; go_simp
      simp only [Act.put, List.getElem_toArray, List.getElem_cons_zero, List.getElem_cons_succ, List.setIfInBounds_toArray, List.set_cons_zero, List.set_cons_succ]
      refine wpAnyH_take (i := 4) (v := (.int .i64 j)) rfl (by kernel_rfl) (by kernel_rfl) (by kernel_rfl) (fun _ _ _ h => h) (Or.inl ⟨by rfl, fun w' hw' => ?_⟩) hS ?_
      · go_simp
      simp only [Act.put, List.getElem_toArray, List.getElem_cons_zero, List.getElem_cons_succ, List.setIfInBounds_toArray, List.set_cons_zero, List.set_cons_succ]
      refine wpAnyH_take (i := 5) (v := (.pointer (some ⟨ba, oa + j * 3, none⟩))) rfl (by kernel_rfl) (by kernel_rfl) (by kernel_rfl) (fun _ _ _ h => h) (Or.inl ⟨by rfl, fun w' hw' => ?_⟩) hS ?_
      · go_simp
      simp only [Act.put, List.getElem_toArray, List.getElem_cons_zero, List.getElem_cons_succ, List.setIfInBounds_toArray, List.set_cons_zero, List.set_cons_succ]
      refine wpAnyH_take (i := 6) (v := (.agg #[.string x1n, .int .i64 x1s, .slice a1 (lenF l1) c1])) rfl (by kernel_rfl) (by kernel_rfl) (by kernel_rfl) (fun _ _ _ h => h) (Or.inl ⟨by rfl, fun w' hw' => ?_⟩) hS ?_
      · obtain ⟨s0, s1, s2, s3, s4, s5, s6, s7⟩ := hw'; go_simp
      simp only [Act.put, List.getElem_toArray, List.getElem_cons_zero, List.getElem_cons_succ, List.setIfInBounds_toArray, List.set_cons_zero, List.set_cons_succ]
      refine wpAnyH_take (i := 8) (v := (.pointer (some ⟨w.heap.size + 1 + 1 + 1, 2, none⟩))) rfl (by kernel_rfl) (by kernel_rfl) (by kernel_rfl) (fun _ _ _ h => h) (Or.inl ⟨by rfl, fun w' hw' => ?_⟩) hS ?_
      · go_simp
      simp only [Act.put, List.getElem_toArray, List.getElem_cons_zero, List.getElem_cons_succ, List.setIfInBounds_toArray, List.set_cons_zero, List.set_cons_succ]
      refine wpAnyH_take (i := 9) (v := (.slice (some ⟨bb, ob, none⟩) (lenF m) d)) rfl (by kernel_rfl) (by kernel_rfl) (by kernel_rfl) (fun _ _ _ h => h) (Or.inl ⟨by rfl, fun w' hw' => ?_⟩) hS ?_
      · obtain ⟨s0, s1, s2, s3, s4, s5, s6, s7⟩ := hw'; go_simp
      simp only [Act.put, List.getElem_toArray, List.getElem_cons_zero, List.getElem_cons_succ, List.setIfInBounds_toArray, List.set_cons_zero, List.set_cons_succ]
      refine wpAnyH_take (i := 10) (v := (.int .i64 j)) rfl (by kernel_rfl) (by kernel_rfl) (by kernel_rfl) (fun _ _ _ h => h) (Or.inl ⟨by rfl, fun w' hw' => ?_⟩) hS ?_
      · go_simp
      simp only [Act.put, List.getElem_toArray, List.getElem_cons_zero, List.getElem_cons_succ, List.setIfInBounds_toArray, List.set_cons_zero, List.set_cons_succ]
      refine wpAnyH_take (i := 11) (v := (.pointer (some ⟨bb, ob + j * 3, none⟩))) rfl (by kernel_rfl) (by kernel_rfl) (by kernel_rfl) (fun _ _ _ h => h) (Or.inl ⟨by rfl, fun w' hw' => ?_⟩) hS ?_
      · go_simp
      simp only [Act.put, List.getElem_toArray, List.getElem_cons_zero, List.getElem_cons_succ, List.setIfInBounds_toArray, List.set_cons_zero, List.set_cons_succ]
      refine wpAnyH_take (i := 12) (v := (.agg #[.string x2n, .int .i64 x2s, .slice a2 (lenF l2) c2])) rfl (by kernel_rfl) (by kernel_rfl) (by kernel_rfl) (fun _ _ _ h => h) (Or.inl ⟨by rfl, fun w' hw' => ?_⟩) hS ?_
      · obtain ⟨s0, s1, s2, s3, s4, s5, s6, s7⟩ := hw'; go_simp
      simp only [Act.put, List.getElem_toArray, List.getElem_cons_zero, List.getElem_cons_succ, List.setIfInBounds_toArray, List.set_cons_zero, List.set_cons_succ]
      refine wpAnyH_ready (rs := [1, 7]) (by kernel_rfl) (by simp) ?_
      refine AllReadyH.cons rfl (fun K hK => ?_) (AllReadyH.cons rfl (fun K hK => ?_) (AllReadyH.nil))
      · have bq : wr.drew.cell? ⟨w1.heap.size, 5, none⟩ = some v := HP.out.x.c 5
        go_simp
        refine hK.out _ _ (HN0.out) (fun hS => ?_)
        clear hK K bq
        refine wpAnyH_ready (rs := [7]) (by kernel_rfl) (by simp) ?_
        refine AllReadyH.cons rfl (fun K hK => ?_) (AllReadyH.nil)
        go_simp
        refine Calls.mono HC1.out ?_
        rintro e v1 ⟨a3, c3, rfl, ho1, hb1⟩
        have HO1 := hid ho1.own; have HV1 : Hid (Below wr.heap.size wr v1) := hid (((Below.refl _ wr).drew).trans hb1); have HN1 := hid (HSB.out v1 (fun q hq => HV1.out.block q (by have := HXL.out; omega)))
        clear ho1 hb1
        refine hK.out _ _ HN1.out (fun hS => ?_)
        clear hK K
        dsimp only
        refine wpAnyH_ready (rs := [13]) (by kernel_rfl) (by simp) ?_
        refine AllReadyH.cons rfl (fun K hK => ?_) (AllReadyH.nil)
        go_simp
        refine Calls.mono (HC2.out _ HV1.out) ?_
        rintro e v2 ⟨a4, c4, rfl, ho2, hb2⟩
        have HV2 := hid hb2; have HO2 := hid ho2.own; have HB12 : Hid (Below wr.heap.size wr v2) := hid (HV1.out.trans (hb2.mono HV1.out.size)); have HN2 := hid (HSB.out v2 (fun q hq => HB12.out.block q (by have := HXL.out; omega)))
        clear ho2 hb2
        refine hK.out _ _ HN2.out (fun hS => ?_)
        clear hK K
        dsimp only
        refine wpAnyH_take (i := 14) (v := (.agg #[.string x1n, .int .i64 x1s, .slice a3 (lenF l1) c3, .string x2n, .int .i64 x2s, .slice a4 (lenF l2) c4])) rfl (by kernel_rfl) (by kernel_rfl) (by kernel_rfl) (fun _ _ _ h => h) (Or.inl ⟨by rfl, fun w' hw' => ?_⟩) hS ?_
        · go_simp
        simp only [Act.put, List.getElem_toArray, List.getElem_cons_zero, List.getElem_cons_succ, List.setIfInBounds_toArray, List.set_cons_zero, List.set_cons_succ]
        refine wpAnyH_ready (rs := [15]) (by kernel_rfl) (by simp) ?_
        refine AllReadyH.cons rfl (fun K hK => ?_) (AllReadyH.nil)
        go_simp
        refine hK.out _ _ (HSB.out _ (fun q hq => (HB12.out.alloc HB12.out.size _).block q (by have := HXL.out; omega))) (fun hS => ?_)
        clear hK K
        refine wpAnyH_ready (rs := [16]) (by kernel_rfl) (by simp) ?_
        refine AllReadyH.cons rfl (fun K hK => ?_) (AllReadyH.nil)
        refine step_append_lies _ (by rfl) _ _ 34 (by rfl) (w1.heap.size + 1) 28 i0 _ 6 96 Try.underlying34 hi0 hz0' hz1 hz2 rfl (by decide) v j (kvCells ks) (by rfl) (owns_below (owns_below HP.out.row HB12.out) ((Below.refl _ _).alloc (Nat.le_refl _) _)) ⟨v2.heap.size, 0, none⟩ 1 1 (kvCells [⟨(x1n, x1s), l1, a3, c3⟩, ⟨(x2n, x2s), l2, a4, c4⟩]) (by rfl) rfl (World.news_of_block (Box.new v2 28 #[.string x1n, .int .i64 x1s, .slice a3 (lenF l1) c3, .string x2n, .int .i64 x2s, .slice a4 (lenF l2) c4])) (six_one2 _ _) (by decide) (by omega) (by omega) (by have := HB12.out.size; have := HXL.out; simp; omega) _ rfl ?_
        intro g3 cap3 w3 hown3 hgrow3 hat3 hlt3
        have HG3 := hid hgrow3; have HA3 : Hid (v.ownBlock = some g3 ∨ g3 = v2.heap.size + 1) := hid (by simpa using hat3); have HO3 := hid hown3; have HF3 := hid (part_far HP.out HV1.out HV2.out hgrow3); have HX3 : Hid (Box w3 w1.heap.size 36 (outC v)) := hid ((HF3.out.1 _ (by omega)).trans HP.out.x); have vX3 := HX3.out.c 5; have fX3 := HX3.out.f 5
        clear hown3 hgrow3 hat3 hlt3
        refine hK.out _ _ (HSB.out w3 (fun q hq => HF3.out.1 q (by omega))) (fun hS => ?_)
        clear hK K
        simp only [Act.put, List.getElem_toArray, List.getElem_cons_zero, List.getElem_cons_succ, List.setIfInBounds_toArray, List.set_cons_zero, List.set_cons_succ]
        refine wpAnyH_take (i := 17) (v := (.pointer (some ⟨w1.heap.size, 5, none⟩))) rfl (by kernel_rfl) (by kernel_rfl) (by kernel_rfl) (fun _ _ _ h => h) (Or.inl ⟨by rfl, fun w' hw' => ?_⟩) hS ?_
        · go_simp
        simp only [Act.put, List.getElem_toArray, List.getElem_cons_zero, List.getElem_cons_succ, List.setIfInBounds_toArray, List.set_cons_zero, List.set_cons_succ]
        refine wpAnyH_ready (rs := [18]) (by kernel_rfl) (by simp) ?_
        refine AllReadyH.cons rfl (fun K hK => ?_) (AllReadyH.nil)
        go_simp
        refine hK.out _ _ (HSB.out _ (fun q hq => (Below.heap_setCell w3 ⟨w1.heap.size, 5, none⟩ _ q (by show q ≠ w1.heap.size; omega)).trans (HF3.out.1 q (by omega)))) (fun hS => ?_)
        clear hK K
        refine wpAnyH_done (by kernel_rfl) ?_ _
        have HNX := hid (part_step (k1 := ⟨(x1n, x1s), l1, a3, c3⟩) (k2 := ⟨(x2n, x2s), l2, a4, c4⟩) HP.out HV1.out HV2.out HO1.out HO2.out HG3.out HA3.out HO3.out)
        clear vX3 fX3 hS
        go_wp2_with fail
        go_roundw
        case rel =>
          refine ⟨j + 1, _, _, by omega, by go_num, HNX.out, ?_⟩
          obtain ⟨B1, O1, sp1⟩ := KD1.out.split
          obtain ⟨B2, O2, sp2⟩ := KD2.out.split
          have t1 := kids_take sp1
          have t2 := kids_take sp2
          rw [List.map_append, HK.out, take_zip1 t1 t2 (by rw [List.length_take, List.length_take, kids_len, kids_len]; have := HLL.out; omega), flat_snoc]
          rfl
        case measure => simp [intOf]; omega
      · go_simp
        refine Calls.mono HC1.out ?_
        rintro e v1 ⟨a3, c3, rfl, ho1, hb1⟩
        have HO1 := hid ho1.own; have HV1 : Hid (Below wr.heap.size wr v1) := hid (((Below.refl _ wr).drew).trans hb1); have HN1 := hid (HSB.out v1 (fun q hq => HV1.out.block q (by have := HXL.out; omega)))
        clear ho1 hb1
        refine hK.out _ _ HN1.out (fun hS => ?_)
        clear hK K
        dsimp only
        refine wpAnyH_ready (rs := [1, 13]) (by kernel_rfl) (by simp) ?_
        refine AllReadyH.cons rfl (fun K hK => ?_) (AllReadyH.cons rfl (fun K hK => ?_) (AllReadyH.nil))
        · have bq : v1.cell? ⟨w1.heap.size, 5, none⟩ = some v := (HP.out.x.below HV1.out).c 5
          go_simp
          refine hK.out _ _ (HN1.out) (fun hS => ?_)
          clear hK K bq
          refine wpAnyH_ready (rs := [13]) (by kernel_rfl) (by simp) ?_
          refine AllReadyH.cons rfl (fun K hK => ?_) (AllReadyH.nil)
          go_simp
          refine Calls.mono (HC2.out _ HV1.out) ?_
          rintro e v2 ⟨a4, c4, rfl, ho2, hb2⟩
          have HV2 := hid hb2; have HO2 := hid ho2.own; have HB12 : Hid (Below wr.heap.size wr v2) := hid (HV1.out.trans (hb2.mono HV1.out.size)); have HN2 := hid (HSB.out v2 (fun q hq => HB12.out.block q (by have := HXL.out; omega)))
          clear ho2 hb2
          refine hK.out _ _ HN2.out (fun hS => ?_)
          clear hK K
          dsimp only
          refine wpAnyH_take (i := 14) (v := (.agg #[.string x1n, .int .i64 x1s, .slice a3 (lenF l1) c3, .string x2n, .int .i64 x2s, .slice a4 (lenF l2) c4])) rfl (by kernel_rfl) (by kernel_rfl) (by kernel_rfl) (fun _ _ _ h => h) (Or.inl ⟨by rfl, fun w' hw' => ?_⟩) hS ?_
          · go_simp
          simp only [Act.put, List.getElem_toArray, List.getElem_cons_zero, List.getElem_cons_succ, List.setIfInBounds_toArray, List.set_cons_zero, List.set_cons_succ]
          refine wpAnyH_ready (rs := [15]) (by kernel_rfl) (by simp) ?_
          refine AllReadyH.cons rfl (fun K hK => ?_) (AllReadyH.nil)
          go_simp
          refine hK.out _ _ (HSB.out _ (fun q hq => (HB12.out.alloc HB12.out.size _).block q (by have := HXL.out; omega))) (fun hS => ?_)
          clear hK K
          refine wpAnyH_ready (rs := [16]) (by kernel_rfl) (by simp) ?_
          refine AllReadyH.cons rfl (fun K hK => ?_) (AllReadyH.nil)
          refine step_append_lies _ (by rfl) _ _ 34 (by rfl) (w1.heap.size + 1) 28 i0 _ 6 96 Try.underlying34 hi0 hz0' hz1 hz2 rfl (by decide) v j (kvCells ks) (by rfl) (owns_below (owns_below HP.out.row HB12.out) ((Below.refl _ _).alloc (Nat.le_refl _) _)) ⟨v2.heap.size, 0, none⟩ 1 1 (kvCells [⟨(x1n, x1s), l1, a3, c3⟩, ⟨(x2n, x2s), l2, a4, c4⟩]) (by rfl) rfl (World.news_of_block (Box.new v2 28 #[.string x1n, .int .i64 x1s, .slice a3 (lenF l1) c3, .string x2n, .int .i64 x2s, .slice a4 (lenF l2) c4])) (six_one2 _ _) (by decide) (by omega) (by omega) (by have := HB12.out.size; have := HXL.out; simp; omega) _ rfl ?_
          intro g3 cap3 w3 hown3 hgrow3 hat3 hlt3
          have HG3 := hid hgrow3; have HA3 : Hid (v.ownBlock = some g3 ∨ g3 = v2.heap.size + 1) := hid (by simpa using hat3); have HO3 := hid hown3; have HF3 := hid (part_far HP.out HV1.out HV2.out hgrow3); have HX3 : Hid (Box w3 w1.heap.size 36 (outC v)) := hid ((HF3.out.1 _ (by omega)).trans HP.out.x); have vX3 := HX3.out.c 5; have fX3 := HX3.out.f 5
          clear hown3 hgrow3 hat3 hlt3
          refine hK.out _ _ (HSB.out w3 (fun q hq => HF3.out.1 q (by omega))) (fun hS => ?_)
          clear hK K
          simp only [Act.put, List.getElem_toArray, List.getElem_cons_zero, List.getElem_cons_succ, List.setIfInBounds_toArray, List.set_cons_zero, List.set_cons_succ]
          refine wpAnyH_take (i := 17) (v := (.pointer (some ⟨w1.heap.size, 5, none⟩))) rfl (by kernel_rfl) (by kernel_rfl) (by kernel_rfl) (fun _ _ _ h => h) (Or.inl ⟨by rfl, fun w' hw' => ?_⟩) hS ?_
          · go_simp
          simp only [Act.put, List.getElem_toArray, List.getElem_cons_zero, List.getElem_cons_succ, List.setIfInBounds_toArray, List.set_cons_zero, List.set_cons_succ]
          refine wpAnyH_ready (rs := [18]) (by kernel_rfl) (by simp) ?_
          refine AllReadyH.cons rfl (fun K hK => ?_) (AllReadyH.nil)
          go_simp
          refine hK.out _ _ (HSB.out _ (fun q hq => (Below.heap_setCell w3 ⟨w1.heap.size, 5, none⟩ _ q (by show q ≠ w1.heap.size; omega)).trans (HF3.out.1 q (by omega)))) (fun hS => ?_)
          clear hK K
          refine wpAnyH_done (by kernel_rfl) ?_ _
          have HNX := hid (part_step (k1 := ⟨(x1n, x1s), l1, a3, c3⟩) (k2 := ⟨(x2n, x2s), l2, a4, c4⟩) HP.out HV1.out HV2.out HO1.out HO2.out HG3.out HA3.out HO3.out)
          clear vX3 fX3 hS
          go_wp2_with fail
          go_roundw
          case rel =>
            refine ⟨j + 1, _, _, by omega, by go_num, HNX.out, ?_⟩
            obtain ⟨B1, O1, sp1⟩ := KD1.out.split
            obtain ⟨B2, O2, sp2⟩ := KD2.out.split
            have t1 := kids_take sp1
            have t2 := kids_take sp2
            rw [List.map_append, HK.out, take_zip1 t1 t2 (by rw [List.length_take, List.length_take, kids_len, kids_len]; have := HLL.out; omega), flat_snoc]
            rfl
          case measure => simp [intOf]; omega
        · go_simp
          refine Calls.mono (HC2.out _ HV1.out) ?_
          rintro e v2 ⟨a4, c4, rfl, ho2, hb2⟩
          have HV2 := hid hb2; have HO2 := hid ho2.own; have HB12 : Hid (Below wr.heap.size wr v2) := hid (HV1.out.trans (hb2.mono HV1.out.size)); have HN2 := hid (HSB.out v2 (fun q hq => HB12.out.block q (by have := HXL.out; omega)))
          clear ho2 hb2
          refine hK.out _ _ HN2.out (fun hS => ?_)
          clear hK K
          dsimp only
          refine wpAnyH_take (i := 14) (v := (.agg #[.string x1n, .int .i64 x1s, .slice a3 (lenF l1) c3, .string x2n, .int .i64 x2s, .slice a4 (lenF l2) c4])) rfl (by kernel_rfl) (by kernel_rfl) (by kernel_rfl) (fun _ _ _ h => h) (Or.inl ⟨by rfl, fun w' hw' => ?_⟩) hS ?_
          · go_simp
          simp only [Act.put, List.getElem_toArray, List.getElem_cons_zero, List.getElem_cons_succ, List.setIfInBounds_toArray, List.set_cons_zero, List.set_cons_succ]
          refine wpAnyH_ready (rs := [1, 15]) (by kernel_rfl) (by simp) ?_
          refine AllReadyH.cons rfl (fun K hK => ?_) (AllReadyH.cons rfl (fun K hK => ?_) (AllReadyH.nil))
          · have bq : v2.cell? ⟨w1.heap.size, 5, none⟩ = some v := (HP.out.x.below HB12.out).c 5
            go_simp
            refine hK.out _ _ (HN2.out) (fun hS => ?_)
            clear hK K bq
            refine wpAnyH_ready (rs := [15]) (by kernel_rfl) (by simp) ?_
            refine AllReadyH.cons rfl (fun K hK => ?_) (AllReadyH.nil)
            go_simp
            refine hK.out _ _ (HSB.out _ (fun q hq => (HB12.out.alloc HB12.out.size _).block q (by have := HXL.out; omega))) (fun hS => ?_)
            clear hK K
            refine wpAnyH_ready (rs := [16]) (by kernel_rfl) (by simp) ?_
            refine AllReadyH.cons rfl (fun K hK => ?_) (AllReadyH.nil)
            refine step_append_lies _ (by rfl) _ _ 34 (by rfl) (w1.heap.size + 1) 28 i0 _ 6 96 Try.underlying34 hi0 hz0' hz1 hz2 rfl (by decide) v j (kvCells ks) (by rfl) (owns_below (owns_below HP.out.row HB12.out) ((Below.refl _ _).alloc (Nat.le_refl _) _)) ⟨v2.heap.size, 0, none⟩ 1 1 (kvCells [⟨(x1n, x1s), l1, a3, c3⟩, ⟨(x2n, x2s), l2, a4, c4⟩]) (by rfl) rfl (World.news_of_block (Box.new v2 28 #[.string x1n, .int .i64 x1s, .slice a3 (lenF l1) c3, .string x2n, .int .i64 x2s, .slice a4 (lenF l2) c4])) (six_one2 _ _) (by decide) (by omega) (by omega) (by have := HB12.out.size; have := HXL.out; simp; omega) _ rfl ?_
            intro g3 cap3 w3 hown3 hgrow3 hat3 hlt3
            have HG3 := hid hgrow3; have HA3 : Hid (v.ownBlock = some g3 ∨ g3 = v2.heap.size + 1) := hid (by simpa using hat3); have HO3 := hid hown3; have HF3 := hid (part_far HP.out HV1.out HV2.out hgrow3); have HX3 : Hid (Box w3 w1.heap.size 36 (outC v)) := hid ((HF3.out.1 _ (by omega)).trans HP.out.x); have vX3 := HX3.out.c 5; have fX3 := HX3.out.f 5
            clear hown3 hgrow3 hat3 hlt3
            refine hK.out _ _ (HSB.out w3 (fun q hq => HF3.out.1 q (by omega))) (fun hS => ?_)
            clear hK K
            simp only [Act.put, List.getElem_toArray, List.getElem_cons_zero, List.getElem_cons_succ, List.setIfInBounds_toArray, List.set_cons_zero, List.set_cons_succ]
            refine wpAnyH_take (i := 17) (v := (.pointer (some ⟨w1.heap.size, 5, none⟩))) rfl (by kernel_rfl) (by kernel_rfl) (by kernel_rfl) (fun _ _ _ h => h) (Or.inl ⟨by rfl, fun w' hw' => ?_⟩) hS ?_
            · go_simp
            simp only [Act.put, List.getElem_toArray, List.getElem_cons_zero, List.getElem_cons_succ, List.setIfInBounds_toArray, List.set_cons_zero, List.set_cons_succ]
            refine wpAnyH_ready (rs := [18]) (by kernel_rfl) (by simp) ?_
            refine AllReadyH.cons rfl (fun K hK => ?_) (AllReadyH.nil)
            go_simp
            refine hK.out _ _ (HSB.out _ (fun q hq => (Below.heap_setCell w3 ⟨w1.heap.size, 5, none⟩ _ q (by show q ≠ w1.heap.size; omega)).trans (HF3.out.1 q (by omega)))) (fun hS => ?_)
            clear hK K
            refine wpAnyH_done (by kernel_rfl) ?_ _
            have HNX := hid (part_step (k1 := ⟨(x1n, x1s), l1, a3, c3⟩) (k2 := ⟨(x2n, x2s), l2, a4, c4⟩) HP.out HV1.out HV2.out HO1.out HO2.out HG3.out HA3.out HO3.out)
            clear vX3 fX3 hS
            go_wp2_with fail
            go_roundw
            case rel =>
              refine ⟨j + 1, _, _, by omega, by go_num, HNX.out, ?_⟩
              obtain ⟨B1, O1, sp1⟩ := KD1.out.split
              obtain ⟨B2, O2, sp2⟩ := KD2.out.split
              have t1 := kids_take sp1
              have t2 := kids_take sp2
              rw [List.map_append, HK.out, take_zip1 t1 t2 (by rw [List.length_take, List.length_take, kids_len, kids_len]; have := HLL.out; omega), flat_snoc]
              rfl
            case measure => simp [intOf]; omega
          · go_simp
            refine hK.out _ _ (HSB.out _ (fun q hq => (HB12.out.alloc HB12.out.size _).block q (by have := HXL.out; omega))) (fun hS => ?_)
            clear hK K
            refine wpAnyH_ready (rs := [1]) (by kernel_rfl) (by simp) ?_
            refine AllReadyH.cons rfl (fun K hK => ?_) (AllReadyH.nil)
            have bq : (v2.alloc (.cells #[.string x1n, .int .i64 x1s, .slice a3 (lenF l1) c3, .string x2n, .int .i64 x2s, .slice a4 (lenF l2) c4] 28)).cell? ⟨w1.heap.size, 5, none⟩ = some v := (HP.out.x.below (HB12.out.alloc HB12.out.size _)).c 5
            go_simp
            refine hK.out _ _ (hS) (fun hS => ?_)
            clear hK K bq
            refine wpAnyH_ready (rs := [16]) (by kernel_rfl) (by simp) ?_
            refine AllReadyH.cons rfl (fun K hK => ?_) (AllReadyH.nil)
            refine step_append_lies _ (by rfl) _ _ 34 (by rfl) (w1.heap.size + 1) 28 i0 _ 6 96 Try.underlying34 hi0 hz0' hz1 hz2 rfl (by decide) v j (kvCells ks) (by rfl) (owns_below (owns_below HP.out.row HB12.out) ((Below.refl _ _).alloc (Nat.le_refl _) _)) ⟨v2.heap.size, 0, none⟩ 1 1 (kvCells [⟨(x1n, x1s), l1, a3, c3⟩, ⟨(x2n, x2s), l2, a4, c4⟩]) (by rfl) rfl (World.news_of_block (Box.new v2 28 #[.string x1n, .int .i64 x1s, .slice a3 (lenF l1) c3, .string x2n, .int .i64 x2s, .slice a4 (lenF l2) c4])) (six_one2 _ _) (by decide) (by omega) (by omega) (by have := HB12.out.size; have := HXL.out; simp; omega) _ rfl ?_
            intro g3 cap3 w3 hown3 hgrow3 hat3 hlt3
            have HG3 := hid hgrow3; have HA3 : Hid (v.ownBlock = some g3 ∨ g3 = v2.heap.size + 1) := hid (by simpa using hat3); have HO3 := hid hown3; have HF3 := hid (part_far HP.out HV1.out HV2.out hgrow3); have HX3 : Hid (Box w3 w1.heap.size 36 (outC v)) := hid ((HF3.out.1 _ (by omega)).trans HP.out.x); have vX3 := HX3.out.c 5; have fX3 := HX3.out.f 5
            clear hown3 hgrow3 hat3 hlt3
            refine hK.out _ _ (HSB.out w3 (fun q hq => HF3.out.1 q (by omega))) (fun hS => ?_)
            clear hK K
            simp only [Act.put, List.getElem_toArray, List.getElem_cons_zero, List.getElem_cons_succ, List.setIfInBounds_toArray, List.set_cons_zero, List.set_cons_succ]
            refine wpAnyH_take (i := 17) (v := (.pointer (some ⟨w1.heap.size, 5, none⟩))) rfl (by kernel_rfl) (by kernel_rfl) (by kernel_rfl) (fun _ _ _ h => h) (Or.inl ⟨by rfl, fun w' hw' => ?_⟩) hS ?_
            · go_simp
            simp only [Act.put, List.getElem_toArray, List.getElem_cons_zero, List.getElem_cons_succ, List.setIfInBounds_toArray, List.set_cons_zero, List.set_cons_succ]
            refine wpAnyH_ready (rs := [18]) (by kernel_rfl) (by simp) ?_
            refine AllReadyH.cons rfl (fun K hK => ?_) (AllReadyH.nil)
            go_simp
            refine hK.out _ _ (HSB.out _ (fun q hq => (Below.heap_setCell w3 ⟨w1.heap.size, 5, none⟩ _ q (by show q ≠ w1.heap.size; omega)).trans (HF3.out.1 q (by omega)))) (fun hS => ?_)
            clear hK K
            refine wpAnyH_done (by kernel_rfl) ?_ _
            have HNX := hid (part_step (k1 := ⟨(x1n, x1s), l1, a3, c3⟩) (k2 := ⟨(x2n, x2s), l2, a4, c4⟩) HP.out HV1.out HV2.out HO1.out HO2.out HG3.out HA3.out HO3.out)
            clear vX3 fX3 hS
            go_wp2_with fail
            go_roundw
            case rel =>
              refine ⟨j + 1, _, _, by omega, by go_num, HNX.out, ?_⟩
              obtain ⟨B1, O1, sp1⟩ := KD1.out.split
              obtain ⟨B2, O2, sp2⟩ := KD2.out.split
              have t1 := kids_take sp1
              have t2 := kids_take sp2
              rw [List.map_append, HK.out, take_zip1 t1 t2 (by rw [List.length_take, List.length_take, kids_len, kids_len]; have := HLL.out; omega), flat_snoc]
              rfl
            case measure => simp [intOf]; omega
    · have hjl : j = lenF l := by omega
      subst hjl
      have hzl : ((kidsL l).zip (kidsL m)).length = lenF l := by rw [List.length_zip, kids_len, kids_len, HLL.out, Nat.min_self]
      rw [show ((kidsL l).zip (kidsL m)).take (lenF l) = (kidsL l).zip (kidsL m) from List.take_of_length_le (by omega)] at hks
      obtain ⟨la, lc, rfl, hwy⟩ := part_end hP hzl hks
      have HW := hid hwy
      have x0 := hP.x.c 0; have x1 := hP.x.c 1; have x2 := hP.x.c 2; have x3 := hP.x.c 3; have x4 := hP.x.c 4; have x5 := hP.x.c 5; have x6 := hP.x.c 6
      have r0 := hP.y.c 0; have r1 := hP.y.c 1; have r2 := hP.y.c 2; have r3 := hP.y.c 3; have r4 := hP.y.c 4; have r5 := hP.y.c 5; have r6 := hP.y.c 6
      have g0 := hP.y.f 0; have g1 := hP.y.f 1; have g2 := hP.y.f 2; have g3 := hP.y.f 3; have g4 := hP.y.f 4; have g5 := hP.y.f 5; have g6 := hP.y.f 6
      clear hP hks hwy
      go_wp2_with fail
      refine bodyPost_ret (results_cell_row rfl _ _ (w.heap.size + 1) 36 (wayC 4 noS (noS, 0) none 0 0 la (lenF l) lc 0) (0, 0) _ rfl (box7_all HP.out.y _ _ _ _ _ _ _) Try.underlying36 rfl Try.size36) rfl ?_
      exact ⟨⟨_, rfl, HW.out _ (fun q hq => sets7_far (by have := HZ1.out; omega) _ _ _ _ _ _ _)⟩, sets7_below HP.out.low (by omega) _ _ _ _ _ _ _⟩
end Go.Proofs.Ytfnfbljijkjkjaa
/- The document's One, whole, where the left side's symbol is the signature's. -/
namespace Go.Proofs.Ytfnfbljijkjkjaa
open Go.RowKit Go.Deep

theorem rone_any (S : Option Addr) (n cap : Nat) (sg : List Sym) (s t : Tn) (a b : Option Addr) (c d : Nat) (w : World) (hG : SigAt w S n sg) (hS : TmAt w s.1 a c s.2) (hT : TmAt w t.1 b d t.2) (hM : nodesF s.2 ≤ 1048576) (hR : noName s.1.1 = true → 0 ≤ s.1.2 ∧ s.1.2 < sg.length) :
    Calls Try.prog 12 #[.slice S n cap, .agg #[.string s.1.1, .int .i64 s.1.2, .slice a (lenF s.2) c, .string t.1.1, .int .i64 t.1.2, .slice b (lenF t.2) d]] w fun e w' => (∃ v, e = .returned v ∧ WyAt w' v (oneP sg s t)) ∧ Below w.heap.size w w' := by
  have hln := len_nodes s.2
  obtain ⟨⟨xn, xs⟩, l⟩ := s
  obtain ⟨⟨yn, ys⟩, m⟩ := t
  dsimp only at *
  unfold oneP
  by_cases h0 : cmpN ((xn, xs), l) ((yn, ys), m) = 0
  · rw [if_pos h0]
    exact rone_same S n cap xn xs l yn ys m a b c d w hS hT (by rw [h0]; rfl)
  · have hc0 : (cmpN ((xn, xs), l) ((yn, ys), m) == 0) = false := by simp [h0]
    rw [if_neg h0]
    unfold lookP
    dsimp only
    cases hx : noName xn <;> cases hy : noName yn
    · rw [if_pos rfl, if_pos rfl]
      have e1 : cmpN ((xn, xs), l) ((yn, ys), m) = cmpS xn yn := by unfold cmpN cmp1; dsimp only; rw [if_pos hx, if_pos hy]
      have e2 := cmpS_three xn yn
      unfold ofVarsP
      dsimp only
      rw [if_neg h0]
      cases hb : Op.bytesLess xn.toList yn.toList
      · cases hq : (xn.toList == yn.toList)
        · rw [hb, hq] at e2
          have e3 : cmpN ((xn, xs), l) ((yn, ys), m) = 1 := by rw [e1, e2]; rfl
          rw [if_pos e3]
          exact rone_gt S n cap xn xs l yn ys m a b c d w hS hT hc0 hx hy hb hq
        · rw [hb, hq] at e2
          exact absurd (e1.trans e2) h0
      · rw [hb] at e2
        have e3 : cmpN ((xn, xs), l) ((yn, ys), m) = -1 := by rw [e1, e2]; rfl
        rw [if_neg (by rw [e3]; decide)]
        exact rone_le S n cap xn xs l yn ys m a b c d w hS hT hc0 hx hy hb
    · rw [if_pos rfl, if_neg (by decide)]
      unfold ofVarP
      dsimp only
      rw [← hasR_is]
      cases hh : hasR xn (yn, ys) m
      · exact rone_lset S n cap xn xs l yn ys m a b c d w hS hT hc0 hx hy hh
      · exact rone_lhas S n cap xn xs l yn ys m a b c d w hS hT hc0 hx hy hh
    · rw [if_neg (by decide), if_pos rfl]
      unfold ofVarP
      dsimp only
      rw [← hasR_is]
      cases hh : hasR yn (xn, xs) l
      · exact rone_rset S n cap xn xs l yn ys m a b c d w hS hT hc0 hx hy hh
      · exact rone_rhas S n cap xn xs l yn ys m a b c d w hS hT hc0 hx hy hh
    · rw [if_neg (by decide), if_neg (by decide)]
      obtain ⟨r0, r1⟩ := hR hx
      by_cases he : xs = ys
      · rw [if_pos he]
        by_cases hk : kindAt sg xs = 1
        · have hf : freeB sg xs = true := by unfold freeB; rw [hk, decide_eq_true r0, decide_eq_true r1]; rfl
          rw [if_pos hf]
          unfold sideP
          by_cases hl : lenF l = lenF m
          · rw [if_pos hl]
            exact rone_parts S n cap sg xn xs l yn ys m a b c d w hG hS hT hc0 hx hy he.symm r0 r1 (by rw [hk]; rfl) hl.symm (by omega)
          · rw [if_neg hl]
            exact rone_lens S n cap sg xn xs l yn ys m a b c d w hG hS hT hc0 hx hy he.symm r0 r1 (by rw [hk]; rfl) (by simp; omega)
        · have hf : ¬ freeB sg xs = true := by unfold freeB; simp [hk]
          rw [if_neg hf]
          exact rone_pure S n cap sg xn xs l yn ys m a b c d w hG hS hT hc0 hx hy he.symm r0 r1 (by simp [hk])
      · rw [if_neg he]
        exact rone_syms S n cap xn xs l yn ys m a b c d w hS hT hc0 hx hy (by simp [he])
theorem right_in {l : List Sym} {t : Tn} (h : rightB l t = true) (hn : noName t.1.1 = true) : 0 ≤ t.1.2 ∧ t.1.2 < l.length := by
  unfold rightB at h
  simp only [Bool.and_eq_true, beq_iff_eq] at h
  have h2 := h.2
  unfold errT thenC at h2
  by_cases h3 : t.1.2 < 0 ∨ (l.length : Int) ≤ t.1.2
  · rw [nodeErr_out hn h3] at h2
    simp at h2
  · omega
end Go.Proofs.Ytfnfbljijkjkjaa
/- Where the document's One sets a variable, the term is of its own making. -/
namespace Go.Proofs.Ytfnfbljijkjkjaa
open Go.RowKit Go.Deep

/-- A way that sets a variable, its term in blocks of its own. -/
structure WyO (w : World) (v : Value) (nm : ByteArray) (t : Tn) : Prop where
  is : ∃ a c, v = .agg (wayC 3 nm t.1 a (lenF t.2) c none 0 0 0) ∧ OwnTm false (fun _ => True) w t.1 a c t.2
theorem setO {w : World} {nm : ByteArray} {t : Tn} {a : Option Addr} {c : Nat} {P : Nat → Prop} (h : OwnTm false P w t.1 a c t.2) : WyO w (.agg (wayC 3 nm t.1 a (lenF t.2) c none 0 0 0)) nm t :=
  ⟨a, c, rfl, h.mono (fun _ _ _ => trivial)⟩
set_option maxRecDepth 100000 in
set_option maxHeartbeats 4000000 in
theorem rone_gtO (S : Option Addr) (n cap : Nat) (xn : ByteArray) (xs : Int) (l : Fo) (yn : ByteArray) (ys : Int) (m : Fo) (a b : Option Addr) (c d : Nat) (w : World) (hS : TmAt w (xn, xs) a c l) (hT : TmAt w (yn, ys) b d m)
    (hc0 : (cmpN ((xn, xs), l) ((yn, ys), m) == 0) = false) (hx : noName xn = false) (hy : noName yn = false) (h1 : Op.bytesLess xn.toList yn.toList = false) (h2 : (xn.toList == yn.toList) = false) :
    Calls Try.prog 12 #[.slice S n cap, .agg #[.string xn, .int .i64 xs, .slice a (lenF l) c, .string yn, .int .i64 ys, .slice b (lenF m) d]] w fun e w' => (∃ v, e = .returned v ∧ WyO w' v xn ((yn, ys), m)) ∧ Below w.heap.size w w' := by
  obtain ⟨b2, b3, b4, hb0⟩ := four_new w #[.string xn, .int .i64 xs, .slice a (lenF l) c, .string yn, .int .i64 ys, .slice b (lenF m) d] 28 zWay 36 #[.string xn, .int .i64 xs, .slice a (lenF l) c] 26 #[.string yn, .int .i64 ys, .slice b (lenF m) d] 26
  have H26 := hid fun (W : World) (hW : Below w.heap.size w W) => rsame_any ((xn, xs), l) ((yn, ys), m) a b c d W (hS.below hW) (hT.below hW)
  have HY := hid b2; have HL := hid b3; have HR := hid b4; have HB0 := hid hb0
  have hz0 : Hid (w.heap.size + 4 ≤ ((((w.alloc (.cells #[.string xn, .int .i64 xs, .slice a (lenF l) c, .string yn, .int .i64 ys, .slice b (lenF m) d] 28)).alloc (.cells zWay 36)).alloc (.cells #[.string xn, .int .i64 xs, .slice a (lenF l) c] 26)).alloc (.cells #[.string yn, .int .i64 ys, .slice b (lenF m) d] 26)).heap.size) := hid (by simp)
  have H27 := hid fun (W : World) (hW : Below w.heap.size w W) => rset_any xn ((yn, ys), m) b d W (hT.below hW)
  unfold noName at hx hy
  rw [hc0] at H26
  clear hS hT b2 b3 b4 hb0 hc0
  dsimp only at *
  go_enter Try.func12, Try.ntmps12
  go_wp2_with (first
      | (go_at_call 26; refine (H26.out _ HB0.out).mono ?_; rintro e w1 ⟨rfl, hb1⟩; have HB1 := hid (HB0.out.trans (hb1.mono HB0.out.size)); have Y1 := HY.out.below hb1; have HY1 := hid Y1; have L1 := HL.out.below hb1; have R1 := HR.out.below hb1; have HL1 := hid L1; have HR1 := hid R1; have l0 := L1.c 0; have l1 := L1.c 1; have l2 := L1.c 2; have q0 := R1.c 0; have q1 := R1.c 1; have q2 := R1.c 2; have HZ1 : Hid (w.heap.size + 4 ≤ w1.heap.size) := hid (by have := hb1.size; have := hz0.out; omega); clear hb1 Y1 L1 R1)
      | (go_at_call 27; refine (H27.out _ HB1.out).mono ?_; rintro e w2 ⟨a', c', rfl, ht, hb⟩; have HT2 := hid ht; have HB2 := hid (HB1.out.trans (hb.mono HB1.out.size)); have Y2 := HY1.out.below hb; have HY2 := hid Y2; have r0 := Y2.c 0; have r1 := Y2.c 1; have r2 := Y2.c 2; have r3 := Y2.c 3; have r4 := Y2.c 4; have r5 := Y2.c 5; have r6 := Y2.c 6; have g0 := Y2.f 0; have g1 := Y2.f 1; have g2 := Y2.f 2; have g3 := Y2.f 3; have g4 := Y2.f 4; have g5 := Y2.f 5; have g6 := Y2.f 6; clear ht hb Y2; unfold wayC))
  refine bodyPost_ret (results_cell_row rfl _ _ (w.heap.size + 1) 36 (wayC 3 xn (yn, ys) a' (lenF m) c' none 0 0 0) (0, 0) _ rfl (box7_all HY2.out _ _ _ _ _ _ _) Try.underlying36 rfl Try.size36) rfl ?_
  exact ⟨⟨_, rfl, setO (t := ((yn, ys), m)) (HT2.out.keep (fun q hq _ => sets7_far (by have := HZ1.out; omega) _ _ _ _ _ _ _))⟩, sets7_below HB2.out (by omega) _ _ _ _ _ _ _⟩
set_option maxRecDepth 100000 in
set_option maxHeartbeats 4000000 in
theorem rone_leO (S : Option Addr) (n cap : Nat) (xn : ByteArray) (xs : Int) (l : Fo) (yn : ByteArray) (ys : Int) (m : Fo) (a b : Option Addr) (c d : Nat) (w : World) (hS : TmAt w (xn, xs) a c l) (hT : TmAt w (yn, ys) b d m)
    (hc0 : (cmpN ((xn, xs), l) ((yn, ys), m) == 0) = false) (hx : noName xn = false) (hy : noName yn = false) (h1 : Op.bytesLess xn.toList yn.toList = true) :
    Calls Try.prog 12 #[.slice S n cap, .agg #[.string xn, .int .i64 xs, .slice a (lenF l) c, .string yn, .int .i64 ys, .slice b (lenF m) d]] w fun e w' => (∃ v, e = .returned v ∧ WyO w' v yn ((xn, xs), l)) ∧ Below w.heap.size w w' := by
  obtain ⟨b2, b3, b4, hb0⟩ := four_new w #[.string xn, .int .i64 xs, .slice a (lenF l) c, .string yn, .int .i64 ys, .slice b (lenF m) d] 28 zWay 36 #[.string xn, .int .i64 xs, .slice a (lenF l) c] 26 #[.string yn, .int .i64 ys, .slice b (lenF m) d] 26
  have H26 := hid fun (W : World) (hW : Below w.heap.size w W) => rsame_any ((xn, xs), l) ((yn, ys), m) a b c d W (hS.below hW) (hT.below hW)
  have HY := hid b2; have HL := hid b3; have HR := hid b4; have HB0 := hid hb0
  have hz0 : Hid (w.heap.size + 4 ≤ ((((w.alloc (.cells #[.string xn, .int .i64 xs, .slice a (lenF l) c, .string yn, .int .i64 ys, .slice b (lenF m) d] 28)).alloc (.cells zWay 36)).alloc (.cells #[.string xn, .int .i64 xs, .slice a (lenF l) c] 26)).alloc (.cells #[.string yn, .int .i64 ys, .slice b (lenF m) d] 26)).heap.size) := hid (by simp)
  have H27 := hid fun (W : World) (hW : Below w.heap.size w W) => rset_any yn ((xn, xs), l) a c W (hS.below hW)
  unfold noName at hx hy
  rw [hc0] at H26
  clear hS hT b2 b3 b4 hb0 hc0
  dsimp only at *
  go_enter Try.func12, Try.ntmps12
  go_wp2_with (first
      | (go_at_call 26; refine (H26.out _ HB0.out).mono ?_; rintro e w1 ⟨rfl, hb1⟩; have HB1 := hid (HB0.out.trans (hb1.mono HB0.out.size)); have Y1 := HY.out.below hb1; have HY1 := hid Y1; have L1 := HL.out.below hb1; have R1 := HR.out.below hb1; have HL1 := hid L1; have HR1 := hid R1; have l0 := L1.c 0; have l1 := L1.c 1; have l2 := L1.c 2; have q0 := R1.c 0; have q1 := R1.c 1; have q2 := R1.c 2; have HZ1 : Hid (w.heap.size + 4 ≤ w1.heap.size) := hid (by have := hb1.size; have := hz0.out; omega); clear hb1 Y1 L1 R1)
      | (go_at_call 27; refine (H27.out _ HB1.out).mono ?_; rintro e w2 ⟨a', c', rfl, ht, hb⟩; have HT2 := hid ht; have HB2 := hid (HB1.out.trans (hb.mono HB1.out.size)); have Y2 := HY1.out.below hb; have HY2 := hid Y2; have r0 := Y2.c 0; have r1 := Y2.c 1; have r2 := Y2.c 2; have r3 := Y2.c 3; have r4 := Y2.c 4; have r5 := Y2.c 5; have r6 := Y2.c 6; have g0 := Y2.f 0; have g1 := Y2.f 1; have g2 := Y2.f 2; have g3 := Y2.f 3; have g4 := Y2.f 4; have g5 := Y2.f 5; have g6 := Y2.f 6; clear ht hb Y2; unfold wayC))
  refine bodyPost_ret (results_cell_row rfl _ _ (w.heap.size + 1) 36 (wayC 3 yn (xn, xs) a' (lenF l) c' none 0 0 0) (0, 0) _ rfl (box7_all HY2.out _ _ _ _ _ _ _) Try.underlying36 rfl Try.size36) rfl ?_
  exact ⟨⟨_, rfl, setO (t := ((xn, xs), l)) (HT2.out.keep (fun q hq _ => sets7_far (by have := HZ1.out; omega) _ _ _ _ _ _ _))⟩, sets7_below HB2.out (by omega) _ _ _ _ _ _ _⟩
set_option maxRecDepth 100000 in
set_option maxHeartbeats 4000000 in
theorem rone_lsetO (S : Option Addr) (n cap : Nat) (xn : ByteArray) (xs : Int) (l : Fo) (yn : ByteArray) (ys : Int) (m : Fo) (a b : Option Addr) (c d : Nat) (w : World) (hS : TmAt w (xn, xs) a c l) (hT : TmAt w (yn, ys) b d m)
    (hc0 : (cmpN ((xn, xs), l) ((yn, ys), m) == 0) = false) (hx : noName xn = false) (hy : noName yn = true) (hh : hasR xn (yn, ys) m = false) :
    Calls Try.prog 12 #[.slice S n cap, .agg #[.string xn, .int .i64 xs, .slice a (lenF l) c, .string yn, .int .i64 ys, .slice b (lenF m) d]] w fun e w' => (∃ v, e = .returned v ∧ WyO w' v xn ((yn, ys), m)) ∧ Below w.heap.size w w' := by
  obtain ⟨b2, b3, b4, hb0⟩ := four_new w #[.string xn, .int .i64 xs, .slice a (lenF l) c, .string yn, .int .i64 ys, .slice b (lenF m) d] 28 zWay 36 #[.string xn, .int .i64 xs, .slice a (lenF l) c] 26 #[.string yn, .int .i64 ys, .slice b (lenF m) d] 26
  have H26 := hid fun (W : World) (hW : Below w.heap.size w W) => rsame_any ((xn, xs), l) ((yn, ys), m) a b c d W (hS.below hW) (hT.below hW)
  have HY := hid b2; have HL := hid b3; have HR := hid b4; have HB0 := hid hb0
  have hz0 : Hid (w.heap.size + 4 ≤ ((((w.alloc (.cells #[.string xn, .int .i64 xs, .slice a (lenF l) c, .string yn, .int .i64 ys, .slice b (lenF m) d] 28)).alloc (.cells zWay 36)).alloc (.cells #[.string xn, .int .i64 xs, .slice a (lenF l) c] 26)).alloc (.cells #[.string yn, .int .i64 ys, .slice b (lenF m) d] 26)).heap.size) := hid (by simp)
  have H27 := hid fun (W : World) (hW : Below w.heap.size w W) => rset_any xn ((yn, ys), m) b d W (hT.below hW)
  have H28 := hid fun (W : World) (hW : Below w.heap.size w W) => rhas_all _ xn (yn, ys) m b d W (Nat.le_refl _) (hT.below hW)
  rw [hh] at H28
  unfold noName at hx hy
  rw [hc0] at H26
  clear hS hT b2 b3 b4 hb0 hc0
  dsimp only at *
  go_enter Try.func12, Try.ntmps12
  go_wp2_with (first
      | (go_at_call 26; refine (H26.out _ HB0.out).mono ?_; rintro e w1 ⟨rfl, hb1⟩; have HB1 := hid (HB0.out.trans (hb1.mono HB0.out.size)); have Y1 := HY.out.below hb1; have HY1 := hid Y1; have L1 := HL.out.below hb1; have R1 := HR.out.below hb1; have HL1 := hid L1; have HR1 := hid R1; have l0 := L1.c 0; have l1 := L1.c 1; have l2 := L1.c 2; have q0 := R1.c 0; have q1 := R1.c 1; have q2 := R1.c 2; have HZ1 : Hid (w.heap.size + 4 ≤ w1.heap.size) := hid (by have := hb1.size; have := hz0.out; omega); clear hb1 Y1 L1 R1)
      | (go_at_call 28; refine (H28.out _ HB1.out).mono ?_; rintro e w2 ⟨rfl, hb2⟩; have HB2 := hid (HB1.out.trans (hb2.mono HB1.out.size)); have Y2 := HY1.out.below hb2; have HY2 := hid Y2; have L2 := HL1.out.below hb2; have R2 := HR1.out.below hb2; have m0 := L2.c 0; have m1 := L2.c 1; have m2 := L2.c 2; have p0 := R2.c 0; have p1 := R2.c 1; have p2 := R2.c 2; have HZ2 : Hid (w.heap.size + 4 ≤ w2.heap.size) := hid (by have := hb2.size; have := HZ1.out; omega); clear hb2 Y2 L2 R2)
      | (go_at_call 27; refine (H27.out _ HB2.out).mono ?_; rintro e w3 ⟨a', c', rfl, ht, hb⟩; have HT3 := hid ht; have HB3 := hid (HB2.out.trans (hb.mono HB2.out.size)); have Y3 := HY2.out.below hb; have HY3 := hid Y3; have r0 := Y3.c 0; have r1 := Y3.c 1; have r2 := Y3.c 2; have r3 := Y3.c 3; have r4 := Y3.c 4; have r5 := Y3.c 5; have r6 := Y3.c 6; have g0 := Y3.f 0; have g1 := Y3.f 1; have g2 := Y3.f 2; have g3 := Y3.f 3; have g4 := Y3.f 4; have g5 := Y3.f 5; have g6 := Y3.f 6; clear ht hb Y3; unfold wayC))
  refine bodyPost_ret (results_cell_row rfl _ _ (w.heap.size + 1) 36 (wayC 3 xn (yn, ys) a' (lenF m) c' none 0 0 0) (0, 0) _ rfl (box7_all HY3.out _ _ _ _ _ _ _) Try.underlying36 rfl Try.size36) rfl ?_
  exact ⟨⟨_, rfl, setO (t := ((yn, ys), m)) (HT3.out.keep (fun q hq _ => sets7_far (by have := HZ2.out; omega) _ _ _ _ _ _ _))⟩, sets7_below HB3.out (by omega) _ _ _ _ _ _ _⟩
set_option maxRecDepth 100000 in
set_option maxHeartbeats 4000000 in
theorem rone_rsetO (S : Option Addr) (n cap : Nat) (xn : ByteArray) (xs : Int) (l : Fo) (yn : ByteArray) (ys : Int) (m : Fo) (a b : Option Addr) (c d : Nat) (w : World) (hS : TmAt w (xn, xs) a c l) (hT : TmAt w (yn, ys) b d m)
    (hc0 : (cmpN ((xn, xs), l) ((yn, ys), m) == 0) = false) (hx : noName xn = true) (hy : noName yn = false) (hh : hasR yn (xn, xs) l = false) :
    Calls Try.prog 12 #[.slice S n cap, .agg #[.string xn, .int .i64 xs, .slice a (lenF l) c, .string yn, .int .i64 ys, .slice b (lenF m) d]] w fun e w' => (∃ v, e = .returned v ∧ WyO w' v yn ((xn, xs), l)) ∧ Below w.heap.size w w' := by
  obtain ⟨b2, b3, b4, hb0⟩ := four_new w #[.string xn, .int .i64 xs, .slice a (lenF l) c, .string yn, .int .i64 ys, .slice b (lenF m) d] 28 zWay 36 #[.string xn, .int .i64 xs, .slice a (lenF l) c] 26 #[.string yn, .int .i64 ys, .slice b (lenF m) d] 26
  have H26 := hid fun (W : World) (hW : Below w.heap.size w W) => rsame_any ((xn, xs), l) ((yn, ys), m) a b c d W (hS.below hW) (hT.below hW)
  have HY := hid b2; have HL := hid b3; have HR := hid b4; have HB0 := hid hb0
  have hz0 : Hid (w.heap.size + 4 ≤ ((((w.alloc (.cells #[.string xn, .int .i64 xs, .slice a (lenF l) c, .string yn, .int .i64 ys, .slice b (lenF m) d] 28)).alloc (.cells zWay 36)).alloc (.cells #[.string xn, .int .i64 xs, .slice a (lenF l) c] 26)).alloc (.cells #[.string yn, .int .i64 ys, .slice b (lenF m) d] 26)).heap.size) := hid (by simp)
  have H27 := hid fun (W : World) (hW : Below w.heap.size w W) => rset_any yn ((xn, xs), l) a c W (hS.below hW)
  have H28 := hid fun (W : World) (hW : Below w.heap.size w W) => rhas_all _ yn (xn, xs) l a c W (Nat.le_refl _) (hS.below hW)
  rw [hh] at H28
  unfold noName at hx hy
  rw [hc0] at H26
  clear hS hT b2 b3 b4 hb0 hc0
  dsimp only at *
  go_enter Try.func12, Try.ntmps12
  go_wp2_with (first
      | (go_at_call 26; refine (H26.out _ HB0.out).mono ?_; rintro e w1 ⟨rfl, hb1⟩; have HB1 := hid (HB0.out.trans (hb1.mono HB0.out.size)); have Y1 := HY.out.below hb1; have HY1 := hid Y1; have L1 := HL.out.below hb1; have R1 := HR.out.below hb1; have HL1 := hid L1; have HR1 := hid R1; have l0 := L1.c 0; have l1 := L1.c 1; have l2 := L1.c 2; have q0 := R1.c 0; have q1 := R1.c 1; have q2 := R1.c 2; have HZ1 : Hid (w.heap.size + 4 ≤ w1.heap.size) := hid (by have := hb1.size; have := hz0.out; omega); clear hb1 Y1 L1 R1)
      | (go_at_call 28; refine (H28.out _ HB1.out).mono ?_; rintro e w2 ⟨rfl, hb2⟩; have HB2 := hid (HB1.out.trans (hb2.mono HB1.out.size)); have Y2 := HY1.out.below hb2; have HY2 := hid Y2; have L2 := HL1.out.below hb2; have R2 := HR1.out.below hb2; have m0 := L2.c 0; have m1 := L2.c 1; have m2 := L2.c 2; have p0 := R2.c 0; have p1 := R2.c 1; have p2 := R2.c 2; have HZ2 : Hid (w.heap.size + 4 ≤ w2.heap.size) := hid (by have := hb2.size; have := HZ1.out; omega); clear hb2 Y2 L2 R2)
      | (go_at_call 27; refine (H27.out _ HB2.out).mono ?_; rintro e w3 ⟨a', c', rfl, ht, hb⟩; have HT3 := hid ht; have HB3 := hid (HB2.out.trans (hb.mono HB2.out.size)); have Y3 := HY2.out.below hb; have HY3 := hid Y3; have r0 := Y3.c 0; have r1 := Y3.c 1; have r2 := Y3.c 2; have r3 := Y3.c 3; have r4 := Y3.c 4; have r5 := Y3.c 5; have r6 := Y3.c 6; have g0 := Y3.f 0; have g1 := Y3.f 1; have g2 := Y3.f 2; have g3 := Y3.f 3; have g4 := Y3.f 4; have g5 := Y3.f 5; have g6 := Y3.f 6; clear ht hb Y3; unfold wayC))
  refine bodyPost_ret (results_cell_row rfl _ _ (w.heap.size + 1) 36 (wayC 3 yn (xn, xs) a' (lenF l) c' none 0 0 0) (0, 0) _ rfl (box7_all HY3.out _ _ _ _ _ _ _) Try.underlying36 rfl Try.size36) rfl ?_
  exact ⟨⟨_, rfl, setO (t := ((xn, xs), l)) (HT3.out.keep (fun q hq _ => sets7_far (by have := HZ2.out; omega) _ _ _ _ _ _ _))⟩, sets7_below HB3.out (by omega) _ _ _ _ _ _ _⟩

theorem rone_set (S : Option Addr) (n cap : Nat) (sg : List Sym) (s t : Tn) (a b : Option Addr) (c d : Nat) (w : World) (hS : TmAt w s.1 a c s.2) (hT : TmAt w t.1 b d t.2) (h0 : cmpN s t ≠ 0) (ha : (lookP sg s t).act = 3) :
    Calls Try.prog 12 #[.slice S n cap, .agg #[.string s.1.1, .int .i64 s.1.2, .slice a (lenF s.2) c, .string t.1.1, .int .i64 t.1.2, .slice b (lenF t.2) d]] w fun e w' => (∃ v, e = .returned v ∧ WyO w' v (lookP sg s t).bv (lookP sg s t).t) ∧ Below w.heap.size w w' := by
  obtain ⟨⟨xn, xs⟩, l⟩ := s
  obtain ⟨⟨yn, ys⟩, m⟩ := t
  dsimp only at *
  have hc0 : (cmpN ((xn, xs), l) ((yn, ys), m) == 0) = false := by simp [h0]
  unfold lookP at ha ⊢
  dsimp only at ha ⊢
  cases hx : noName xn <;> cases hy : noName yn <;> rw [hx, hy] at ha
  · rw [if_pos rfl, if_pos rfl]
    have e1 : cmpN ((xn, xs), l) ((yn, ys), m) = cmpS xn yn := by unfold cmpN cmp1; dsimp only; rw [if_pos hx, if_pos hy]
    have e2 := cmpS_three xn yn
    unfold ofVarsP
    dsimp only
    rw [if_neg h0]
    cases hb : Op.bytesLess xn.toList yn.toList
    · cases hq : (xn.toList == yn.toList)
      · rw [hb, hq] at e2
        have e3 : cmpN ((xn, xs), l) ((yn, ys), m) = 1 := by rw [e1, e2]; rfl
        rw [if_pos e3]
        exact rone_gtO S n cap xn xs l yn ys m a b c d w hS hT hc0 hx hy hb hq
      · rw [hb, hq] at e2
        exact absurd (e1.trans e2) h0
    · rw [hb] at e2
      have e3 : cmpN ((xn, xs), l) ((yn, ys), m) = -1 := by rw [e1, e2]; rfl
      rw [if_neg (by rw [e3]; decide)]
      exact rone_leO S n cap xn xs l yn ys m a b c d w hS hT hc0 hx hy hb
  · rw [if_pos rfl, if_neg (by decide)]
    rw [if_pos rfl, if_neg (by decide)] at ha
    unfold ofVarP at ha ⊢
    dsimp only at ha ⊢
    rw [← hasR_is] at ha ⊢
    cases hh : hasR xn (yn, ys) m
    · exact rone_lsetO S n cap xn xs l yn ys m a b c d w hS hT hc0 hx hy hh
    · rw [hh, if_pos rfl] at ha; exact absurd ha (by decide)
  · rw [if_neg (by decide), if_pos rfl]
    rw [if_neg (by decide), if_pos rfl] at ha
    unfold ofVarP at ha ⊢
    dsimp only at ha ⊢
    rw [← hasR_is] at ha ⊢
    cases hh : hasR yn (xn, xs) l
    · exact rone_rsetO S n cap xn xs l yn ys m a b c d w hS hT hc0 hx hy hh
    · rw [hh, if_pos rfl] at ha; exact absurd ha (by decide)
  · exfalso
    rw [if_neg (by decide), if_neg (by decide)] at ha
    unfold sideP at ha
    split at ha
    · split at ha
      · split at ha
        · exact absurd ha (show ¬ (4 : Int) = 3 by decide)
        · exact absurd ha (show ¬ (2 : Int) = 3 by decide)
      · exact absurd ha (show ¬ (5 : Int) = 3 by decide)
    · exact absurd ha (show ¬ (2 : Int) = 3 by decide)
theorem wy_form {w : World} {v : Value} {V : Wy} (h : WyAt w v V) : ∃ bv x a n c la ln lc sym, v = .agg (wayC V.act bv x a n c la ln lc sym) := by
  obtain ⟨a, c, ks, la, lc, h1, _⟩ := h.is
  exact ⟨_, _, _, _, _, _, _, _, _, h1⟩
/-- The parts of a way, as equations in memory. -/
theorem wy_parts {w : World} {v : Value} {V : Wy} (h : WyAt w v V) : ∃ (bv : ByteArray) (x : ByteArray × Int) (a : Option Addr) (n c : Nat) (la : Option Addr) (lc : Nat) (sym : Int) (ks : List Kv), v = .agg (wayC V.act bv x a n c la V.ls.length lc sym) ∧ ks.map Kv.tn = flatL V.ls ∧ (∀ k ∈ ks, TmAt w k.x k.a k.c k.l) ∧ (V.ls.length = 0 ∨ ∃ g, la = some ⟨g, 0, none⟩ ∧ CellsAt w g ks) ∧ V.ls.length ≤ lc := by
  obtain ⟨a, c, ks, la, lc, h1, _, h3, h4, h5, h6⟩ := h.is
  exact ⟨_, _, _, _, _, _, _, _, ks, h1, h3, h4, h5, h6⟩
end Go.Proofs.Ytfnfbljijkjkjaa
/- odd of the statement; free and put of the document. -/
namespace Go.Proofs.Ytfnfbljijkjkjaa
open Go.RowKit Go.Deep

def odd1 (x : ByteArray × Int) (l : Fo) : Bool := !noName x.1 && (decide (0 < lenF l) || x.2 != 0)
def oddF : Fo → Bool
  | .nil => false
  | .node _ _ x l r => (odd1 x l || oddF l) || oddF r
def oddT (x : ByteArray × Int) (l : Fo) : Bool := odd1 x l || oddF l
theorem odd1_ok {x : ByteArray × Int} {l : Fo} (h : odd1 x l = false) : noName x.1 = false → l = .nil ∧ x.2 = 0 := fun hx => by
  unfold odd1 at h
  rw [hx, Bool.not_false, Bool.true_and, Bool.or_eq_false_iff, decide_eq_false_iff_not] at h
  exact ⟨len_nil (by omega), by simpa using h.2⟩
theorem oddF_ok : ∀ {F : Fo}, oddF F = false → okF F
  | .nil, _ => trivial
  | .node _ _ x l r, h => by
    rw [oddF, Bool.or_eq_false_iff, Bool.or_eq_false_iff] at h
    exact ⟨⟨odd1_ok h.1.1, oddF_ok h.1.2⟩, oddF_ok h.2⟩
theorem odd_ok {x : ByteArray × Int} {l : Fo} (h : oddT x l = false) : okT (x, l) := by
  unfold oddT at h
  rw [Bool.or_eq_false_iff] at h
  exact ⟨odd1_ok h.1, oddF_ok h.2⟩
def OddOk (k : Nat) : Prop := ∀ (x : ByteArray × Int) (l : Fo) (a : Option Addr) (c : Nat) (w : World), nodesF l ≤ k → TmAt w x a c l →
  Calls Try.prog 14 #[.agg #[.string x.1, .int .i64 x.2, .slice a (lenF l) c]] w fun e w' => e = .returned (.bool (oddT x l)) ∧ Below w.heap.size w w'
set_option maxRecDepth 100000 in
set_option maxHeartbeats 2000000 in
theorem odd_all : ∀ k, OddOk k := by
  intro k
  induction k using Nat.strongRecOn with
  | _ k ih =>
    intro x l a c w hk hT
    have HT := hid hT
    have IH : Hid (∀ j, j < k → OddOk j) := ih
    have O0 := hid (One.new w x a (lenF l) c)
    have hln : lenF l ≤ 9223372036854775807 := by have := hT.sizes.len; have := hT.sizes.cap; unfold maxLen at *; omega
    have t0 := O0.out.t.c0; have t1 := O0.out.t.c1; have t2 := O0.out.t.c2
    obtain ⟨R, hR⟩ : ∃ R, oddT x l = R := ⟨_, rfl⟩
    rw [hR]
    clear hT ih
    cases hnm : noName x.1 with
    | true =>
      have hnm' : x.1.toList.isEmpty = true := hnm
      have HR : Hid (oddF l = R) := hid (by rw [← hR]; unfold oddT odd1; rw [hnm]; rfl)
      clear hR hnm
      go_enter Try.func14, Try.ntmps14
      go_wp2_with fail
      generalize w.alloc (.cells #[.string x.1, .int .i64 x.2, .slice a (lenF l) c] 26) = V at O0 t0 t1 t2 ⊢
      go_loopw [3, 4] (fun i _ wr => ∃ j : Nat, j ≤ lenF l ∧ i = .int .i64 j ∧ One w x a (lenF l) c wr ∧ oddF (dropF j l) = R) (fun i _ _ => lenF l - (intOf i).toNat)
      case atStart => exact ⟨0, Nat.zero_le _, rfl, O0.out, by rw [drop_zero]; exact HR.out⟩
      case round =>
        obtain ⟨j, hj, rfl, hO, hm⟩ := hrel
        have HO := hid hO
        have t2 := hO.t.c2
        by_cases hlt : j < lenF l
        · obtain ⟨b1, o1, rfl, hk1⟩ := HT.out.args.get (by omega)
          obtain ⟨z, a1, c1, l1, kd⟩ := hk1.kid (k := j) hlt
          have kd' := kd.below hO.low
          obtain ⟨B1, O1', s1⟩ := kd.split
          rw [s1] at hm
          have p0 := kd'.name; have p1 := kd'.sym; have p2 := kd'.list
          have HC := hid (IH.out (nodesF l1) (by have := kd.less; omega) z l1 a1 c1 wr (Nat.le_refl _) kd'.at_)
          have hm2 : (oddT z l1 || oddF (dropF (j + 1) l)) = R := hm
          clear kd kd' s1 hk1 hO hm
          cases ho : oddT z l1 with
          | true =>
            rw [ho] at HC hm2
            have HM := hid hm2
            clear hm2
            go_wp2_with fail
            refine HC.out.mono ?_
            rintro e w3 ⟨rfl, hb3⟩
            have HO4 := hid (HO.out.below hb3)
            clear hb3 p0 p1 p2 t2
            go_wp2_with fail
            go_ret
            exact ⟨by rw [← HM.out]; rfl, HO4.out.low⟩
          | false =>
            rw [ho] at HC hm2
            have HM := hid hm2
            clear hm2
            go_wp2_with fail
            refine HC.out.mono ?_
            rintro e w3 ⟨rfl, hb3⟩
            have HO4 := hid (HO.out.below hb3)
            clear hb3 p0 p1 p2 t2
            go_wp2_with fail
            go_roundw
            case rel => exact ⟨j + 1, by omega, by go_num, HO4.out, HM.out⟩
            case measure => simp [intOf]; omega
        · have e1 : j = lenF l := by omega
          rw [e1, drop_end] at hm
          have HM := hid hm
          clear hm hO
          go_wp2_with fail
          go_ret
          exact ⟨by rw [← HM.out]; rfl, HO.out.low⟩
    | false =>
      have hnm' : x.1.toList.isEmpty = false := hnm
      by_cases hl : 0 < lenF l
      · have HR : Hid (true = R) := hid (by rw [← hR]; unfold oddT odd1; rw [hnm, decide_eq_true hl]; rfl)
        clear hR hnm
        go_enter Try.func14, Try.ntmps14
        go_wp2_with fail
        go_ret
        exact ⟨by rw [← HR.out]; rfl, O0.out.low⟩
      · cases hs : (x.2 != 0) with
        | true =>
          have HR : Hid (true = R) := hid (by rw [← hR]; unfold oddT odd1; rw [hnm, hs, Bool.or_true]; rfl)
          clear hR hnm
          go_enter Try.func14, Try.ntmps14
          go_wp2_with fail
          go_ret
          exact ⟨by rw [← HR.out]; rfl, O0.out.low⟩
        | false =>
          have hl0 : lenF l = 0 := by omega
          have hnl : l = .nil := len_nil hl0
          have HR : Hid (oddF l = R) := hid (by rw [← hR]; unfold oddT odd1; rw [hnm, hs, hl0]; rfl)
          have HR2 : Hid (false = R) := hid (by rw [← HR.out, hnl]; rfl)
          rw [hl0] at hl t2 O0 ⊢
          clear hR hnm hnl hl0
          go_enter Try.func14, Try.ntmps14
          go_wp2_with fail
          generalize w.alloc (.cells #[.string x.1, .int .i64 x.2, .slice a 0 c] 26) = V at O0 t0 t1 t2 ⊢
          go_loopw [3, 4] (fun i _ wr => i = .int .i64 0 ∧ wr = V) (fun _ _ _ => 0)
          case atStart => exact ⟨rfl, rfl⟩
          case round =>
            obtain ⟨rfl, rfl⟩ := hrel
            go_wp2_with fail
            go_ret
            exact ⟨by rw [← HR2.out]; rfl, O0.out.low⟩
theorem odd_any (x : ByteArray × Int) (l : Fo) (a : Option Addr) (c : Nat) (w : World) (hT : TmAt w x a c l) : Calls Try.prog 14 #[.agg #[.string x.1, .int .i64 x.2, .slice a (lenF l) c]] w fun e w' => e = .returned (.bool (oddT x l)) ∧ Below w.heap.size w w' := odd_all _ x l a c w (Nat.le_refl _) hT

def RfrOk (S : List Sym) (sa : Option Addr) (sn sc : Nat) (k : Nat) : Prop := ∀ (x : ByteArray × Int) (l : Fo) (a : Option Addr) (c : Nat) (w : World), nodesF l ≤ k → SigAt w sa sn S → TmAt w x a c l → okT (x, l) →
  Calls Try.prog 35 #[.slice sa sn sc, .agg #[.string x.1, .int .i64 x.2, .slice a (lenF l) c]] w fun e w' => e = .returned (.bool (afT S x l)) ∧ Below w.heap.size w w'
set_option maxRecDepth 100000 in
set_option maxHeartbeats 2000000 in
theorem rfr_all (S : List Sym) (sa : Option Addr) (sn sc : Nat) : ∀ k, RfrOk S sa sn sc k := by
  intro k
  induction k using Nat.strongRecOn with
  | _ k ih =>
    intro x l a c w hk hS hT hok
    have HT := hid hT; have HS := hid hS; have HOK := hid hok
    have IH : Hid (∀ j, j < k → RfrOk S sa sn sc j) := ih
    have O0 := hid (One.new w x a (lenF l) c)
    have hln : lenF l ≤ 9223372036854775807 := by have := hT.sizes.len; have := hT.sizes.cap; unfold maxLen at *; omega
    have t0 := O0.out.t.c0; have t1 := O0.out.t.c1; have t2 := O0.out.t.c2
    obtain ⟨R0, hR⟩ : ∃ R, afT S x l = R := ⟨_, rfl⟩
    rw [hR]
    have hlen := hS.len
    have hsm := hS.small
    unfold maxLen at hsm
    clear hT ih hS
    cases hnm : noName x.1 with
    | false =>
      have hnm' : x.1.toList.isEmpty = false := hnm
      have HR : Hid (true = R0) := hid (by rw [← hR]; unfold afT fr1; rw [hnm, (show l = .nil from (hok.1 hnm).1)]; rfl)
      clear hR hnm hok
      go_enter Try.func35, Try.ntmps35
      go_wp2_with fail
      go_ret
      exact ⟨by rw [← HR.out]; rfl, O0.out.low⟩
    | true =>
      have hnm' : x.1.toList.isEmpty = true := hnm
      have hE : afT S x l = (freeB S x.2 && afF S l) := by unfold afT fr1; rw [hnm]; rfl
      rw [hE] at hR
      clear hnm hE hok
      by_cases h0 : x.2 < 0
      · have HR : Hid (false = R0) := hid (by rw [← hR]; unfold freeB; rw [decide_eq_false (by omega)]; rfl)
        clear hR
        go_enter Try.func35, Try.ntmps35
        go_wp2_with fail
        go_ret
        exact ⟨by rw [← HR.out]; rfl, O0.out.low⟩
      by_cases h1 : (sn : Int) ≤ x.2
      · have HR : Hid (false = R0) := hid (by rw [← hR]; unfold freeB; rw [decide_eq_false (p := x.2 < _) (by omega), Bool.false_and, Bool.and_false]; rfl)
        clear hR
        go_enter Try.func35, Try.ntmps35
        go_wp2_with fail
        go_ret
        exact ⟨by rw [← HR.out]; rfl, O0.out.low⟩
      have hlt : x.2.toNat < S.length := by omega
      obtain ⟨b, off, rfl, sy⟩ := HS.out.cells _ hlt
      have sy' := sy.below O0.out.low
      have hk0 : (0 : Int) ≤ x.2 := by omega
      have hkn : x.2 < (sn : Int) := by omega
      have s1 := sy'.kind
      have hkk : kindAt S x.2 = S[x.2.toNat].kind := by unfold kindAt; rw [List.getElem?_eq_getElem hlt]
      obtain ⟨kd, hkd⟩ : ∃ kd, S[x.2.toNat].kind = kd := ⟨_, rfl⟩
      rw [hkd] at s1 hkk
      have hfb : freeB S x.2 = decide (kd = 1) := by unfold freeB; rw [decide_eq_true hk0, decide_eq_true (show x.2 < (S.length : Int) by omega), hkk]; rfl
      rw [hfb] at hR
      clear sy sy' hkk hkd hfb hlen hlt
      cases hq : (kd != 1) with
      | true =>
        have HR : Hid (false = R0) := hid (by rw [← hR, decide_eq_false (by simpa using hq)]; rfl)
        clear hR
        go_enter Try.func35, Try.ntmps35
        go_wp2_with fail
        go_ret
        exact ⟨by rw [← HR.out]; rfl, O0.out.low⟩
      | false =>
        obtain ⟨R, hR2⟩ : ∃ R, afF S l = R := ⟨_, rfl⟩
        have HR0 : Hid (R = R0) := hid (by rw [← hR, hR2, decide_eq_true (show kd = 1 by simpa using hq)]; rfl)
        have HR := hid hR2
        clear hR hR2
        rw [← HR0.out]
        go_enter Try.func35, Try.ntmps35
        go_wp2_with fail
        generalize w.alloc (.cells #[.string x.1, .int .i64 x.2, .slice a (lenF l) c] 26) = V at O0 t0 t1 t2 s1 ⊢
        clear s1
        go_loopw [5, 6] (fun i _ wr => ∃ j : Nat, j ≤ lenF l ∧ i = .int .i64 j ∧ One w x a (lenF l) c wr ∧ afF S (dropF j l) = R) (fun i _ _ => lenF l - (intOf i).toNat)
        case atStart => exact ⟨0, Nat.zero_le _, rfl, O0.out, by rw [drop_zero]; exact HR.out⟩
        case round =>
          obtain ⟨j, hj, rfl, hO, hm⟩ := hrel
          have HO := hid hO
          have t2 := hO.t.c2
          by_cases hlt : j < lenF l
          · obtain ⟨b1, o1, rfl, hk1⟩ := HT.out.args.get (by omega)
            obtain ⟨z, a1, c1, l1, kd⟩ := hk1.kid (k := j) hlt
            have kd' := kd.below hO.low
            obtain ⟨B1, O1', s1⟩ := kd.split
            rw [s1] at hm
            have p0 := kd'.name; have p1 := kd'.sym; have p2 := kd'.list
            have hoz : okT (z, l1) := okF_kids.1 HOK.out.2 (z, l1) (List.mem_of_getElem? (kid_at kd))
            have HC := hid (IH.out (nodesF l1) (by have := kd.less; omega) z l1 a1 c1 wr (Nat.le_refl _) (HS.out.below hO.low) kd'.at_ hoz)
            have hm2 : (afT S z l1 && afF S (dropF (j + 1) l)) = R := hm
            clear kd kd' s1 hk1 hO hm
            cases ho : afT S z l1 with
            | false =>
              rw [ho] at HC hm2
              have HM := hid hm2
              clear hm2
              go_wp2_with fail
              refine HC.out.mono ?_
              rintro e w3 ⟨rfl, hb3⟩
              have HO4 := hid (HO.out.below hb3)
              clear hb3 p0 p1 p2 t2
              go_wp2_with fail
              go_ret
              exact ⟨by rw [← HM.out]; rfl, HO4.out.low⟩
            | true =>
              rw [ho] at HC hm2
              have HM := hid hm2
              clear hm2
              go_wp2_with fail
              refine HC.out.mono ?_
              rintro e w3 ⟨rfl, hb3⟩
              have HO4 := hid (HO.out.below hb3)
              clear hb3 p0 p1 p2 t2
              go_wp2_with fail
              go_roundw
              case rel => exact ⟨j + 1, by omega, by go_num, HO4.out, HM.out⟩
              case measure => simp [intOf]; omega
          · have e1 : j = lenF l := by omega
            rw [e1, drop_end] at hm
            have HM := hid hm
            clear hm hO
            go_wp2_with fail
            go_ret
            exact ⟨by rw [← HM.out]; rfl, HO.out.low⟩
theorem rfr_any (S : List Sym) (sa : Option Addr) (sn sc : Nat) (x : ByteArray × Int) (l : Fo) (a : Option Addr) (c : Nat) (w : World) (hS : SigAt w sa sn S) (hT : TmAt w x a c l) (ho : okT (x, l)) :
    Calls Try.prog 35 #[.slice sa sn sc, .agg #[.string x.1, .int .i64 x.2, .slice a (lenF l) c]] w fun e w' => e = .returned (.bool (afT S x l)) ∧ Below w.heap.size w w' := rfr_all S sa sn sc _ x l a c w (Nat.le_refl _) hS hT ho

/-- What put leaves. -/
def PutEnd (nm : ByteArray) (T t : Tn) (b : Bool) (w : World) (e : Ending) (w' : World) : Prop := ∃ (z : Tn) (a' : Option Addr) (c' : Nat), e = .returned (.tuple #[.agg #[.string z.1.1, .int .i64 z.1.2, .slice a' (lenF z.2) c'], .bool b]) ∧ (b = true → z = w1T nm T t ∧ OwnTm false (fun q => w.heap.size ≤ q) w' z.1 a' c' z.2) ∧ Below w.heap.size w w'
set_option maxRecDepth 100000 in
set_option maxHeartbeats 4000000 in
theorem rput_any (nm : ByteArray) (T : Tn) (ta : Option Addr) (tc : Nat) (t : Tn) (a : Option Addr) (c : Nat) (w : World) (hT : TmAt w T.1 ta tc T.2) (ht : TmAt w t.1 a c t.2) (hn : noName nm = false) (hok : okT t) (hz : nodesF T.2 ≤ 1048576) (hs : nm.size ≤ maxLen) :
    Calls Try.prog 36 #[.agg #[.string nm, .string T.1.1, .int .i64 T.1.2, .slice ta (lenF T.2) tc], .agg #[.string t.1.1, .int .i64 t.1.2, .slice a (lenF t.2) c]] w (PutEnd nm T t (roomT nm T t) w) := by
  obtain ⟨⟨xn, xs⟩, l⟩ := t
  obtain ⟨⟨yn, ys⟩, m⟩ := T
  dsimp only at *
  have b0 := Box.new w 33 #[.string nm, .string yn, .int .i64 ys, .slice ta (lenF m) tc]
  have b1 := (b0.over (.cells #[.string xn, .int .i64 xs, .slice a (lenF l) c] 26)).over (.cells #[.string ⟨#[]⟩, .int .i64 0, .slice none 0 0] 26)
  have f0 : _ = some _ := b1.c 0; have f1 : _ = some _ := b1.c 1; have f2 : _ = some _ := b1.c 2; have f3 : _ = some _ := b1.c 3
  obtain ⟨q2, q3, q4, hb0⟩ := four_new w #[.string nm, .string yn, .int .i64 ys, .slice ta (lenF m) tc] 33 #[.string xn, .int .i64 xs, .slice a (lenF l) c] 26 #[.string ⟨#[]⟩, .int .i64 0, .slice none 0 0] 26 #[.string nm, .string yn, .int .i64 ys, .slice ta (lenF m) tc] 33
  have HQ2 := hid q2; have HQ3 := hid q3; have HQ4 := hid q4; have HB0 := hid hb0
  have HT := hid hT; have Ht := hid ht
  have hgr := grow_room (T := ((yn, ys), m)) hn hok
  have hpn := pinN_one (T := ((yn, ys), m)) hn hok
  obtain ⟨RB, hRB⟩ : ∃ RB, roomT nm ((yn, ys), m) ((xn, xs), l) = RB := ⟨_, rfl⟩
  rw [hRB] at hgr ⊢
  clear hRB
  have HGR := hid hgr; have HPN := hid hpn; have HNS := hid hs
  clear b0 b1 q2 q3 q4 hb0 hT ht hgr hpn hok hn hs
  go_enter Try.func36, Try.ntmps36
  go_upto_region 2 with fail
  clear f0 f1 f2 f3
  generalize (((w.alloc (.cells #[.string nm, .string yn, .int .i64 ys, .slice ta (lenF m) tc] 33)).alloc (.cells #[.string xn, .int .i64 xs, .slice a (lenF l) c] 26)).alloc (.cells #[.string ⟨#[]⟩, .int .i64 0, .slice none 0 0] 26)).alloc (.cells #[.string nm, .string yn, .int .i64 ys, .slice ta (lenF m) tc] 33) = V at HQ2 HQ3 HQ4 HB0 ⊢
  have HBD : Hid (BindsAt V (some ⟨w.heap.size + 1 + 1 + 1, 0, none⟩) 1 [(nm, ((yn, ys), m))]) := hid ⟨rfl, by decide, fun i hi => by
      obtain rfl : i = 0 := by simp at hi; exact hi
      exact ⟨w.heap.size + 1 + 1 + 1, 0, ta, tc, rfl, ⟨HQ4.out.c 0, HQ4.out.c 1, HQ4.out.c 2, HQ4.out.c 3, HT.out.below HB0.out⟩⟩, fun x hx => by rw [List.mem_singleton.1 hx]; exact HNS.out⟩
  have hC1 : Calls Try.prog 58 #[.slice (some ⟨w.heap.size + 1 + 1 + 1, 0, none⟩) 1 1, .agg #[.string xn, .int .i64 xs, .slice a (lenF l) c]] V _ := grown_any [(nm, ((yn, ys), m))] (by simp) (fun b hb => by rw [List.mem_singleton.1 hb]; exact hz) (xn, xs) l a c (some ⟨w.heap.size + 1 + 1 + 1, 0, none⟩) 1 V (Ht.out.below HB0.out) HBD.out
  rw [HGR.out] at hC1
  have HC1 := hid hC1
  have HLT : Hid (w.heap.size + 1 + 1 + 1 < V.heap.size) := hid HQ4.out.lt
  have x0 : V.cell? ⟨w.heap.size + 1, 0, none⟩ = some (.string xn) := HQ2.out.c 0
  have x1 : V.cell? ⟨w.heap.size + 1, 1, none⟩ = some (.int .i64 xs) := HQ2.out.c 1
  have x2 : V.cell? ⟨w.heap.size + 1, 2, none⟩ = some (.slice a (lenF l) c) := HQ2.out.c 2
  clear hC1 HGR
  go_wp2_with fail
  refine HC1.out.mono ?_
  rintro e w1 ⟨rfl, hb1⟩
  have HB1 := hid (HB0.out.trans (hb1.mono HB0.out.size))
  have HLT1 := hid (Nat.lt_of_lt_of_le HLT.out hb1.size)
  have HBD1 := hid (HBD.out.below hb1)
  have HQ21 := hid (HQ2.out.below hb1); have HQ31 := hid (HQ3.out.below hb1)
  clear hb1 x0 x1 x2 HC1 HBD HQ2 HQ3 HQ4
  have x0 : w1.cell? ⟨w.heap.size + 1, 0, none⟩ = some (.string xn) := HQ21.out.c 0
  have x1 : w1.cell? ⟨w.heap.size + 1, 1, none⟩ = some (.int .i64 xs) := HQ21.out.c 1
  have x2 : w1.cell? ⟨w.heap.size + 1, 2, none⟩ = some (.slice a (lenF l) c) := HQ21.out.c 2
  have HX : Hid (XBox w1 (w.heap.size + 1 + 1) (⟨#[]⟩, 0) (.slice none 0 0)) := hid HQ31.out
  cases RB with
  | false =>
    have r0 := HX.out.c0; have r1 := HX.out.c1; have r2 := HX.out.c2
    have g0 := HX.out.f (k := 0); have g1 := HX.out.f (k := 1); have g2 := HX.out.f (k := 2)
    go_wp2_with fail
    refine bodyPost_ret (results_ct rfl rfl (load26 (HX.out.all (x := (xn, xs)) _))) rfl ?_
    exact ⟨((xn, xs), l), a, c, rfl, (fun h => by cases h), sets_below HB1.out (by omega) _ _ _⟩
  | true =>
    have hC2 : Calls Try.prog 59 #[.slice (some ⟨w.heap.size + 1 + 1 + 1, 0, none⟩) 1 1, .agg #[.string xn, .int .i64 xs, .slice a (lenF l) c]] w1 _ := pin_all [(nm, ((yn, ys), m))] (by simp) (nodesF l) (xn, xs) l a c (some ⟨w.heap.size + 1 + 1 + 1, 0, none⟩) 1 w1 (Nat.le_refl _) (Ht.out.below HB1.out) HBD1.out
    rw [HPN.out] at hC2
    have HC2 := hid hC2
    obtain ⟨z, hz2⟩ : ∃ z, w1N nm ((yn, ys), m) (xn, xs) l = z := ⟨_, rfl⟩
    rw [hz2] at HC2
    have HZ2 : Hid (w1T nm ((yn, ys), m) ((xn, xs), l) = z) := hid hz2
    clear hC2 hz2 HPN
    go_wp2_with fail
    refine HC2.out.mono ?_
    rintro e w2 ⟨a', c', rfl, hr2, hb2⟩
    have HB2 := hid (HB1.out.trans (hb2.mono HB1.out.size))
    have HX2 : Hid (XBox w2 (w.heap.size + 1 + 1) (⟨#[]⟩, 0) (.slice none 0 0)) := hid (HQ31.out.below hb2)
    have HR2 := hid hr2
    clear hb2 hr2 x0 x1 x2 HC2
    have r0 := HX2.out.c0; have r1 := HX2.out.c1; have r2 := HX2.out.c2
    have g0 := HX2.out.f (k := 0); have g1 := HX2.out.f (k := 1); have g2 := HX2.out.f (k := 2)
    go_wp2_with fail
    refine bodyPost_ret (results_ct rfl rfl (load26 (HX2.out.all (x := z.1) _))) rfl ?_
    exact ⟨z, a', c', rfl, (fun _ => ⟨HZ2.out.symm, ((HR2.out.keep (fun q hq _ => sets_far (by have := HLT1.out; omega) _ _ _)).own).mono (fun q _ hq => by have := HLT1.out; omega)⟩), sets_below HB2.out (by omega) _ _ _⟩
end Go.Proofs.Ytfnfbljijkjkjaa
