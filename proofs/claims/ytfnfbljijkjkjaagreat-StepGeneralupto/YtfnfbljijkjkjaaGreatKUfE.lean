import Derived.Test.YtfnfbljijkjkjaaGreatKUfC
/- with of the solver, whole. -/
namespace Go.Proofs.YtfnfbljijkjkjaaGreat
open Go.RowKit Go.Shelf Go.Deep

def WithEnd (S : Nat → Obj → Bool) (nm : ByteArray) (T : Tn) (x : ByteArray × Int) (l : Fo) (a : Option Addr) (c : Nat) (w : World) (e : Ending) (w' : World) : Prop :=
  ∃ a' c', e = .returned (.tuple #[.agg #[.string (w1N nm T x l).1.1, .int .i64 (w1N nm T x l).1.2, .slice a' (lenF (w1N nm T x l).2) c'], .bool (h1N nm x l)]) ∧ TmO S w' (w1N nm T x l).1 a' c' (w1N nm T x l).2 ∧ Below w.heap.size w w' ∧ (h1N nm x l = false → a' = a ∧ c' = c)
def With1Ok (nm : ByteArray) (T : Tn) (ta : Option Addr) (tc : Nat) (N : Int) (k : Nat) : Prop := ∀ (S : Nat → Obj → Bool) (x : ByteArray × Int) (l : Fo) (a : Option Addr) (c Q : Nat) (w : World), nodesF l ≤ k → nodesF l ≤ 1048576 → (∀ b o, w.heap.size ≤ b → is26 o = true → S b o = true) → TmO S w x a c l → TmO S w T.1 ta tc T.2 → Box w Q 105 (ptC nm T ta tc N) →
  Calls Tryz.prog 97 #[.pointer (some ⟨Q, 0, none⟩), .agg #[.string x.1, .int .i64 x.2, .slice a (lenF l) c]] w (WithEnd S nm T x l a c w)
theorem row26 {w : World} {base size n : Nat} {v : Value} {xs : List Value} (h : w.ownsRow base 26 size v n xs) {g : Nat} (hg : v.ownBlock = some g) : ∃ o, w.heap[g]? = some o ∧ is26 o = true := by
  obtain ⟨_, cur, hc⟩ := owns_cells h hg
  exact ⟨_, hc, rfl⟩
set_option maxRecDepth 100000 in
set_option maxHeartbeats 8000000 in
theorem with1_all (nm : ByteArray) (T : Tn) (ta : Option Addr) (tc : Nat) (N : Int) : ∀ k, With1Ok nm T ta tc N k := by
  intro k
  induction k using Nat.strongRecOn with
  | _ k ih =>
    intro S x l a c Q w hk hk2 hSS hT hTT hQ
    have HT := hid hT; have HTT := hid hTT; have HQ := hid hQ; have HSS := hid hSS
    have IH : Hid (∀ j, j < k → With1Ok nm T ta tc N j) := ih
    obtain ⟨W0, hW0⟩ : ∃ W0, (w.alloc (.cells #[.string x.1, .int .i64 x.2, .slice a (lenF l) c] 26)).alloc (.cells #[.string ⟨#[]⟩, .int .i64 0, .slice none 0 0] 26) = W0 := ⟨_, rfl⟩
    have hb0 : Below w.heap.size w W0 := by rw [← hW0]; exact ((Below.refl _ w).alloc (Nat.le_refl _) _).alloc (by simp) _
    have b1 : XBox W0 w.heap.size x (.slice a (lenF l) c) := by rw [← hW0]; exact (Below.heap_alloc _ _ _ (by simp)).trans (World.alloc_heap_new w _)
    have b2 : XBox W0 (w.heap.size + 1) (noS, 0) (.slice none 0 0) := by
      have := World.alloc_heap_new (w.alloc (.cells #[.string x.1, .int .i64 x.2, .slice a (lenF l) c] 26)) (.cells #[.string ⟨#[]⟩, .int .i64 0, .slice none 0 0] 26)
      rw [World.size_alloc] at this
      rw [← hW0]; exact this
    have hsz : W0.heap.size = w.heap.size + 2 := by rw [← hW0]; simp
    have q0 : W0.cell? ⟨Q, 0, none⟩ = some (.string nm) := (hQ.below hb0).c 0
    have t0 := b1.c0
    have HB0 := hid hb0; have HB1 := hid b1; have HB2 := hid b2; have HZ := hid hsz
    have hn0 := len_nodes l
    have hln : lenF l ≤ 1048576 := by omega
    clear hT ih hQ hTT hSS hb0 b1 b2 hsz
    go_enter Tryz.func97, Tryz.ntmps97
    go_upto_region 1 with fail
    clear hW0
    have hls := later_some W0
    have k0 := later_cell t0
    have k1 := later_cell q0
    refine wp_region_later (by kernel_rfl) (by kernel_rfl) ?_
    repeat (go_big_quiet_step (fail))
    refine wpQuiet_nil ?_
    intro _ hw'
    obtain ⟨v2, hw''⟩ := hw'
    subst hw''
    have HL := hid (HB0.out.trans (v2.below.mono HB0.out.size))
    have HX1 := hid (HB1.out.below v2.below); have HX2 := hid (HB2.out.below v2.below)
    have HZ2 : Hid (w.heap.size + 2 ≤ v2.now.heap.size) := hid (by have := v2.below.size; have := HZ.out; omega)
    have HQ2 := hid (HQ.out.below HL.out)
    clear k0 k1 hls t0 q0 HB0 HB1 HB2 HZ
    generalize v2.now = V2 at HL HX1 HX2 HZ2 HQ2 ⊢
    clear v2
    cases heq : (x.1.toList == nm.toList)
    case true =>
      have e1 : w1N nm T x l = T := by unfold w1N eqN; rw [heq, if_pos rfl]
      have e2 : h1N nm x l = true := by unfold h1N eqN; rw [heq]; rfl
      have HE1 := hid e1; have HE2 := hid e2
      have q1 : V2.cell? ⟨Q, 1, none⟩ = some (.string T.1.1) := HQ2.out.c 1
      have q2 : V2.cell? ⟨Q, 2, none⟩ = some (.int .i64 T.1.2) := HQ2.out.c 2
      have q3 : V2.cell? ⟨Q, 3, none⟩ = some (.slice ta (lenF T.2) tc) := HQ2.out.c 3
      have g0 := HX2.out.f (k := 0); have g1 := HX2.out.f (k := 1); have g2 := HX2.out.f (k := 2)
      have y0 := HX2.out.c0; have y1 := HX2.out.c1; have y2 := HX2.out.c2
      clear e1 e2
      go_wp2_with fail
      refine bodyPost_ret (results_ct rfl rfl (load26 (HX2.out.all (x := T.1) _))) rfl ?_
      have hb := sets_below (B := w.heap.size + 1) HL.out (by omega) (.string T.1.1) (.int .i64 T.1.2) (.slice ta (lenF T.2) tc)
      unfold WithEnd
      rw [HE1.out, HE2.out]
      exact ⟨ta, tc, rfl, tmO_below HTT.out hb, hb, fun h => by cases h⟩
    case false =>
      have e1 : w1N nm T x l = (x, w1F nm T l) := by unfold w1N eqN; rw [heq, if_neg (by simp)]
      have e2 : h1N nm x l = (kidsL l).any (fun y => h1N nm y.1 y.2) := by unfold h1N eqN; rw [heq, h1F_kids]; rfl
      have HE1 := hid e1; have HE2 := hid e2
      have z2 := HX1.out.c2
      have hst : WSt S w nm T x a c l 0 (.slice none 0 0) V2 := ⟨HL.out, HZ2.out, HX1.out, HX2.out, .inl ⟨rfl, rfl⟩⟩
      have HST := hid hst
      clear e1 e2 hst HX1 HX2 HL HZ2 HQ2
      go_wp2_with fail
      go_loopw [6, 27] (fun av iv wr => ∃ (j : Nat), j ≤ lenF l ∧ iv = .int .i64 j ∧ WSt S w nm T x a c l j av wr) (fun _ iv _ => lenF l - (intOf iv).toNat)
      case atStart => exact ⟨0, Nat.zero_le _, rfl, HST.out⟩
      case round =>
        obtain ⟨j, hj, rfl, hst⟩ := hrel
        have HST2 := hid hst
        by_cases hlt : j < lenF l
        · obtain ⟨b1, o1, rfl, hk1⟩ := HT.out.args.get (by omega)
          obtain ⟨z, a1, c1, l1, kd⟩ := hk1.kid (k := j) hlt
          have p0 := below_cell hst.low _ _ (off_cell kd.name).choose_spec.2.2
          have p1 := below_cell hst.low _ _ (off_cell kd.sym).choose_spec.2.2
          have p2 := below_cell hst.low _ _ (off_cell kd.list).choose_spec.2.2
          have hd := kid_drop kd
          have hal := alloc_below0 wr (.cells #[.string z.1, .int .i64 z.2, .slice a1 (lenF l1) c1] 26)
          have hgl : ∀ g, u6.ownBlock = some g → w.heap.size + 2 ≤ g ∧ g < wr.heap.size := fun g hg => by
            rcases hst.row with ⟨rfl, _⟩ | ⟨_, ks, h2, _⟩
            · cases hg
            · exact h2.lt g hg
          have hmv : ∀ {W : World} {q : ByteArray × Int} {qa : Option Addr} {qc : Nat} {ql : Fo}, TmO S w q qa qc ql → Below w.heap.size w W → TmO (hid1 w.heap.size S u6) W q qa qc ql := fun hq hW =>
            tmO_move hq fun b o ho hs => by
              have hbl := (Array.getElem?_eq_some_iff.1 ho).1
              refine ⟨(hW.block b hbl).trans ho, ?_⟩
              exact hid1_iff.2 ⟨hs, fun e => by have := (hgl b e).1; omega, by omega, by omega⟩
          have hlow := hst.low.trans (hal.mono hst.low.size)
          have hC := IH.out (nodesF l1) (by have := kd.less; omega) (hid1 w.heap.size S u6) z l1 a1 c1 Q (wr.alloc (.cells #[.string z.1, .int .i64 z.2, .slice a1 (lenF l1) c1] 26)) (Nat.le_refl _) (by have := kd.less; omega) (fun b o hb ho => by
              have h1 := hlow.size
              have h2 := hal.size
              have h3 := hst.big
              exact hid1_iff.2 ⟨HSS.out b o (by omega) ho, fun e => by have := (hgl b e).2; omega, by omega, by omega⟩) (hmv kd.at_ hlow) (hmv HTT.out hlow) (HQ.out.below hlow)
          unfold WithEnd at hC
          have HMV : Hid (∀ {W : World} {q : ByteArray × Int} {qa : Option Addr} {qc : Nat} {ql : Fo}, TmO S w q qa qc ql → Below w.heap.size w W → TmO (hid1 w.heap.size S u6) W q qa qc ql) := hid hmv
          have HGL := hid hgl; have HAL := hid hal; have HD := hid hd; have HK1 := hid hk1
          cases hy : h1N nm z l1
          case false =>
            rw [hy] at hC
            have HC := hid hC
            have HY := hid hy
            clear hC hmv hgl hal hd hk1 kd hlow hst hy
            go_wp2_with fail
            refine HC.out.mono ?_
            rintro e w3 ⟨a', c', rfl, _, hb3, h7⟩
            obtain ⟨rfl, rfl⟩ := h7 trivial
            have hb4 := HAL.out.trans ((hb3.trans ((alloc_below0 w3 (.cells #[.string (w1N nm T z l1).1.1, .int .i64 (w1N nm T z l1).1.2, .slice a' (lenF (w1N nm T z l1).2) c'] 26)).mono hb3.size)).mono HAL.out.size)
            have HN := hid ((HST2.out.below hb4).skip HD.out HY.out)
            clear hb3 hb4 p0 p1 p2
            go_wp2_with fail
            go_roundw
            case rel => exact ⟨j + 1, by omega, by go_num, HN.out⟩
            case measure => simp [intOf]; omega
          case true =>
            rw [hy] at hC
            have HY := hid hy
            have HC := hid hC
            clear hC hmv hgl hal hd kd hlow hy hk1
            have z2' : ∀ W, Below wr.heap.size wr W → W.cell? ⟨w.heap.size, 2, none⟩ = some (.slice (some ⟨b1, o1, none⟩) (lenF l) c) := fun W hW => (hst.b1.below hW).c2
            have HZ2 := hid z2'
            clear z2' hst
            rcases HST2.out.row with ⟨rfl, hnone⟩ | ⟨hany, ks, hrow, hmap, htm⟩
            · obtain ⟨ks, e1, e2, e3⟩ := kids_kvs HK1.out
              have hkl : ks.length = lenF l := by rw [← kids_len, ← e1, List.length_map]
              have HKL := hid hkl
              have HCL := hid fun (W : World) (hW : Below w.heap.size w W) => clone_terms b1 o1 c ks W (fun i u hu => below_cell hW _ _ (off_cell (e2 i u hu)).choose_spec.2.2) (by omega)
              rw [hkl] at HCL
              have HE1' := hid e1; have HE3 := hid e3
              clear e1 e2 e3 hkl
              go_wp2_with fail
              refine HC.out.mono ?_
              rintro e w3 ⟨a', c', rfl, ht3, hb3, _⟩
              have HT3 := hid ht3
              generalize hyy : w1N nm T z l1 = yy at ht3 HT3 ⊢
              obtain ⟨⟨yn, ys⟩, yl⟩ := yy
              have HYY := hid hyy
              have hb4 := HAL.out.trans ((hb3.trans ((alloc_below0 w3 (.cells #[.string yn, .int .i64 ys, .slice a' (lenF yl) c'] 26)).mono hb3.size)).mono HAL.out.size)
              have HB4 := hid hb4
              have HYB := hid (Box.new w3 26 #[.string yn, .int .i64 ys, .slice a' (lenF yl) c'])
              have z2 := HZ2.out _ hb4
              have heq4 : (binOp .eql 24 (.slice none 0 0) (.slice none 0 0)).run Tryz.prog (w3.alloc (.cells #[.string yn, .int .i64 ys, .slice a' (lenF yl) c'] 26)) = .ok (.bool true) (w3.alloc (.cells #[.string yn, .int .i64 ys, .slice a' (lenF yl) c'] 26)) := rfl
              have HT4 := hid (tmO_below ht3 (alloc_below0 w3 (.cells #[.string yn, .int .i64 ys, .slice a' (lenF yl) c'] 26)))
              clear hb3 hb4 p0 p1 p2 ht3 hyy
              dsimp only at *
              go_wp2_with (go_at_call 106; refine (HCL.out _ (HST2.out.low.trans (HB4.out.mono HST2.out.low.size))).mono ?_; rintro e w5 ⟨v5, rfl, hr5, hb5⟩; have HR5 := hid hr5; have HB5 := hid hb5; obtain ⟨g, cap, rfl, hg1, hg2, hg3⟩ := own_slice hr5 (by omega); have hjk : j < ks.length := (by have := HKL.out; omega); have Y5 := HYB.out.below hb5; have y0 := Y5.c 0; have y1 := Y5.c 1; have y2 := Y5.c 2; obtain ⟨r0, r1, r2⟩ := owns_cellk hr5 hjk; have f0 := owns_froz hr5 (j * 3); have f1 := owns_froz hr5 (j * 3 + 1); have f2 := owns_froz hr5 (j * 3 + 2); have HG1 := hid hg1; clear hr5 hb5 Y5 heq4)
              have hq : WSt S w nm T x (some ⟨b1, o1, none⟩) c l (j + 1) (.slice (some ⟨g, 0, none⟩) (lenF l) cap) (set3 w5 g (j * 3) ⟨(yn, ys), yl, a', c'⟩) := by
                have s5 := (HST2.out.below HB4.out).below HB5.out
                have hbg : ∀ {q : ByteArray × Int} {qa : Option Addr} {qc : Nat} {ql : Fo}, TmO (hid1 w.heap.size S (.slice none 0 0)) (w3.alloc (.cells #[.string yn, .int .i64 ys, .slice a' (lenF yl) c'] 26)) q qa qc ql → TmO (hid1 w.heap.size S (.slice (some ⟨g, 0, none⟩) (lenF l) cap)) w5 q qa qc ql := fun hq =>
                  tmO_move hq fun b o ho hs => by
                    have hbl := (Array.getElem?_eq_some_iff.1 ho).1
                    refine ⟨(HB5.out.block b hbl).trans ho, ?_⟩
                    obtain ⟨s1, _, s3, s4⟩ := hid1_iff.1 hs
                    exact hid1_iff.2 ⟨s1, fun e => by have := HG1.out; have e2 : some g = some b := e; have := Option.some.inj e2; omega, s3, s4⟩
                have hsz4 := (HST2.out.below HB4.out).big
                refine WSt.put s5.low s5.big s5.b1 s5.b2 (owns_base HR5.out (by omega)) ?_ (fun k hk => ?_) HD.out HY.out ⟨(yn, ys), yl, a', c'⟩ HYY.out.symm ?_
                · rw [HE1'.out]
                  have : ((kidsL l).take j).map (fun y => w1N nm T y.1 y.2) = (kidsL l).take j := by
                    conv => rhs; rw [← List.map_id ((kidsL l).take j)]
                    refine List.map_congr_left fun y hy => ?_
                    have hf := List.any_eq_false.1 hnone y hy
                    exact w1N_not (by simpa using hf)
                  rw [this, List.take_append_drop]
                · exact hbg (HMV.out (HE3.out k hk) (HST2.out.low.trans (HB4.out.mono HST2.out.low.size)))
                · exact hbg HT4.out
              have HQQ := hid hq
              clear hq y0 y1 y2 r0 r1 r2 f0 f1 f2
              go_roundw
              case rel => exact ⟨j + 1, by omega, by go_num, HQQ.out⟩
              case measure => simp [intOf]; omega
            · have hkl : ks.length = lenF l := by
                have := congrArg List.length hmap
                rw [List.length_map, List.length_append, List.length_map, List.length_take, List.length_drop, kids_len] at this
                omega
              obtain ⟨g, cap, rfl, hg1, hg2, hg3⟩ := own_slice hrow (by omega)
              have HROW := hid hrow; have HMAP := hid hmap; have HTM := hid htm; have HKL := hid hkl
              clear hrow hmap htm hkl
              go_wp2_with fail
              refine HC.out.mono ?_
              rintro e w3 ⟨a', c', rfl, ht3, hb3, _⟩
              generalize hyy : w1N nm T z l1 = yy at ht3 ⊢
              obtain ⟨⟨yn, ys⟩, yl⟩ := yy
              have HYY := hid hyy
              have hb4 := HAL.out.trans ((hb3.trans ((alloc_below0 w3 (.cells #[.string yn, .int .i64 ys, .slice a' (lenF yl) c'] 26)).mono hb3.size)).mono HAL.out.size)
              have HB4 := hid hb4
              have HYB := hid (Box.new w3 26 #[.string yn, .int .i64 ys, .slice a' (lenF yl) c'])
              have heq4 : (binOp .eql 24 (.slice (some ⟨g, 0, none⟩) (lenF l) cap) (.slice none 0 0)).run Tryz.prog (w3.alloc (.cells #[.string yn, .int .i64 ys, .slice a' (lenF yl) c'] 26)) = .ok (.bool false) (w3.alloc (.cells #[.string yn, .int .i64 ys, .slice a' (lenF yl) c'] 26)) := rfl
              have HT4 := hid (tmO_below ht3 (alloc_below0 w3 (.cells #[.string yn, .int .i64 ys, .slice a' (lenF yl) c'] 26)))
              have hr4 := owns_below HROW.out hb4
              have HR4 := hid hr4
              have hjk : j < ks.length := by (have := HKL.out; omega)
              obtain ⟨r0, r1, r2⟩ := owns_cellk hr4 hjk
              have f0 := owns_froz hr4 (j * 3); have f1 := owns_froz hr4 (j * 3 + 1); have f2 := owns_froz hr4 (j * 3 + 2)
              have y0 := HYB.out.c 0; have y1 := HYB.out.c 1; have y2 := HYB.out.c 2
              clear hb3 hb4 p0 p1 p2 ht3 hyy hr4
              dsimp only at *
              go_wp2_with fail
              have hq : WSt S w nm T x (some ⟨b1, o1, none⟩) c l (j + 1) (.slice (some ⟨g, 0, none⟩) (lenF l) cap) (set3 (w3.alloc (.cells #[.string yn, .int .i64 ys, .slice a' (lenF yl) c'] 26)) g (j * 3) ⟨(yn, ys), yl, a', c'⟩) := by
                have s4 := HST2.out.below HB4.out
                exact WSt.put s4.low s4.big s4.b1 s4.b2 HR4.out HMAP.out (fun k hk => tmO_below (HTM.out k hk) HB4.out) HD.out HY.out ⟨(yn, ys), yl, a', c'⟩ HYY.out.symm HT4.out
              have HQQ := hid hq
              clear hq y0 y1 y2 r0 r1 r2 f0 f1 f2 heq4
              go_roundw
              case rel => exact ⟨j + 1, by omega, by go_num, HQQ.out⟩
              case measure => simp [intOf]; omega
        · have e1 : j = lenF l := by omega
          subst e1
          have hw1 : (kidsL l).take (lenF l) = kidsL l := by rw [← kids_len, List.take_length]
          have hw2 : (kidsL l).drop (lenF l) = [] := by rw [← kids_len, List.drop_length]
          have x0 := hst.b1.c0; have x1 := hst.b1.c1; have x2 := hst.b1.c2
          have y0 := hst.b2.c0; have y1 := hst.b2.c1; have y2 := hst.b2.c2
          have g0 := hst.b2.f (k := 0); have g1 := hst.b2.f (k := 1); have g2 := hst.b2.f (k := 2)
          have m2 := hst.b1.f (k := 2)
          rcases hst.row with ⟨rfl, hnone⟩ | ⟨hany, ks, hrow, hmap, htm⟩
          · rw [hw1] at hnone
            have HNO := hid hnone
            have hne : (binOp .neq 24 (.slice none 0 0) (.slice none 0 0)).run Tryz.prog wr = .ok (.bool false) wr := rfl
            clear hst hnone hw1 hw2
            go_wp2_with fail
            refine bodyPost_ret (results_ct rfl rfl (load26 (HST2.out.b2.all (x := x) _))) rfl ?_
            have hb := sets_below (B := w.heap.size + 1) HST2.out.low (by omega) (.string x.1) (.int .i64 x.2) (.slice a (lenF l) c)
            have h0 : h1N nm x l = false := HE2.out.trans HNO.out
            unfold WithEnd
            rw [h0, w1N_not h0]
            exact ⟨a, c, rfl, tmO_below HT.out hb, hb, fun _ => ⟨rfl, rfl⟩⟩
          · obtain ⟨g, cap, rfl, hg1, hg2, hg3⟩ : ∃ g cap, u6 = .slice (some ⟨g, 0, none⟩) (lenF l) cap ∧ w.heap.size + 2 ≤ g ∧ g < wr.heap.size ∧ lenF l ≤ cap := by
              refine own_slice hrow ?_
              rw [← kids_len]
              cases hk : kidsL l with
              | nil => rw [hk] at hany; simp at hany
              | cons _ _ => simp
            rw [hw1] at hany hmap
            rw [hw2, List.append_nil] at hmap
            have HANY := hid hany; have HROW := hid hrow; have HMAP := hid hmap; have HTM := hid htm
            have hne : (binOp .neq 24 (.slice (some ⟨g, 0, none⟩) (lenF l) cap) (.slice none 0 0)).run Tryz.prog wr = .ok (.bool true) wr := rfl
            have hne2 : (binOp .neq 24 (.slice (some ⟨g, 0, none⟩) (lenF l) cap) (.slice none 0 0)).run Tryz.prog (wr.setCell ⟨w.heap.size, 2, none⟩ (.slice (some ⟨g, 0, none⟩) (lenF l) cap)) = .ok (.bool true) (wr.setCell ⟨w.heap.size, 2, none⟩ (.slice (some ⟨g, 0, none⟩) (lenF l) cap)) := rfl
            have hB1 := hst.b1.set (.slice (some ⟨g, 0, none⟩) (lenF l) cap)
            have hB2 := hst.b2.other (p := ⟨w.heap.size, 2, none⟩) (by show w.heap.size + 1 ≠ w.heap.size; omega) (.slice (some ⟨g, 0, none⟩) (lenF l) cap)
            have HBA := hid hB1; have HBB := hid hB2
            have x0' := hB1.c0; have x1' := hB1.c1; have x2' := hB1.c2
            have y0' := hB2.c0; have y1' := hB2.c1; have y2' := hB2.c2
            have g0' := hB2.f (k := 0); have g1' := hB2.f (k := 1); have g2' := hB2.f (k := 2)
            have hcap := (owns_cap hrow).2
            clear hst hany hmap htm hrow hw1 hw2 hB1 hB2
            go_wp2_with fail
            refine bodyPost_ret (results_ct rfl rfl (load26 (HBB.out.all (x := x) _))) rfl ?_
            have hb := sets_below (B := w.heap.size + 1) (HST2.out.low.setCell (p := ⟨w.heap.size, 2, none⟩) (Nat.le_refl _) (.slice (some ⟨g, 0, none⟩) (lenF l) cap)) (by omega) (.string x.1) (.int .i64 x.2) (.slice (some ⟨g, 0, none⟩) (lenF l) cap)
            have hfar : ∀ q, q ≠ w.heap.size → q ≠ w.heap.size + 1 → ((((wr.setCell ⟨w.heap.size, 2, none⟩ (.slice (some ⟨g, 0, none⟩) (lenF l) cap)).setCell ⟨w.heap.size + 1, 0, none⟩ (.string x.1)).setCell ⟨w.heap.size + 1, 1, none⟩ (.int .i64 x.2)).setCell ⟨w.heap.size + 1, 2, none⟩ (.slice (some ⟨g, 0, none⟩) (lenF l) cap)).heap[q]? = wr.heap[q]? := fun q h1 h2 => (sets_far h2 _ _ _).trans (set_far h1 _ _)
            generalize (((wr.setCell ⟨w.heap.size, 2, none⟩ (.slice (some ⟨g, 0, none⟩) (lenF l) cap)).setCell ⟨w.heap.size + 1, 0, none⟩ (.string x.1)).setCell ⟨w.heap.size + 1, 1, none⟩ (.int .i64 x.2)).setCell ⟨w.heap.size + 1, 2, none⟩ (.slice (some ⟨g, 0, none⟩) (lenF l) cap) = WE at hb hfar ⊢
            have h0 : h1N nm x l = true := HE2.out.trans HANY.out
            unfold WithEnd
            rw [h0, HE1.out]
            have hre : WE.ownsRow (w.heap.size + 2) 26 3 (.slice (some ⟨g, 0, none⟩) (lenF l) cap) (lenF l) (kvCells ks) := owns_block HROW.out fun q hq => by
              have e2 : some g = some q := hq
              have := Option.some.inj e2
              exact hfar q (by omega) (by omega)
            refine ⟨some ⟨g, 0, none⟩, cap, (by rw [w1F_len]; rfl), ⟨⟨HT.out.sizes.name, by rw [w1F_len]; exact hg3, hcap, by rw [w1F_len]; exact HT.out.sizes.few⟩, .inr ⟨g, 0, rfl, kids_build _ ks 0 (by rw [w1F_kids]; exact HMAP.out.symm) (fun i u hu => ?_) (fun k hk => ?_)⟩⟩, hb, fun h => by cases h⟩
            · obtain ⟨o, ho1, ho2⟩ := row26 hre (g := g) rfl
              rw [Nat.zero_add]
              exact off_of ho1 (HSS.out g o (by omega) ho2) (owns_cell0 hre hu)
            · exact tmO_move (HTM.out k hk) fun b o ho hs => by
                obtain ⟨s1, s2, s3, s4⟩ := hid1_iff.1 hs
                exact ⟨(hfar b s3 s4).trans ho, s1⟩
end Go.Proofs.YtfnfbljijkjkjaaGreat
