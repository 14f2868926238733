/- The document's All: the search. -/
import Derived.Test.YtbdkogccjnmfoaaLkN
namespace Go.Proofs.Ytbdkogccjnmfoaa
open Go.RowKit Go.Shelf

set_option maxRecDepth 1000000 in
set_option maxHeartbeats 16000000 in
theorem rall_tail3 (p : Option Addr) (c : Nat) (a : List Int) (q : Option Addr) (d : Nat) (b : List Int) (w W : World) (qx : Option Addr) (nx cx : Nat) (xs : List Vc) (qb : Option Addr) (L cb : Nat) (Ts : List (Value × List Vc)) (hK : Kn a b p q W qx nx cx xs qb L cb Ts) (hlow : Below w.heap.size w W) (u2 u3 u5 u7 u9 u10 u11 u12 u13 u14 u15 u16 u17 u18 u19 u20 u21 u22 u23 u24 u25 u26 u27 u28 u29 u30 u31 u32 u33 u34 u35 u36 u37 u38 u39 u40 u41 u42 u43 u44 u45 u46 u47 u48 u49 u50 u51 u52 u53 u54 u55 u56 u57 u58 u59 u60 u61 u62 u63 u64 u65 u66 u67 u68 u69 u70 u71 u72 u73 u74 u75 u76 u77 u78 u79 u80 u81 u82 u83 u84 u85 u86 u87 u88 u89 u90 u91 u92 u93 u94 u95 u96 u97 u98 u99 u100 u101 u102 u103 u104 u105 u106 u107 u108 u109 u110 u111 u112 u113 u114 u115 u116 u117 u118 u119 u120 u121 u122 u123 u124 u125 u126 u127 u128 u129 u130 u131 u132 u133 u134 u135 u136 u137 u138 u139 u140 u141 u142 u143 u144 u145 u146 u147 u148 u149 u150 u151 u152 u153 u154 u155 u156 u157 u158 u159 u160 u161 u162 u163 u164 : Value) :
    Code.wp Try.prog (rt (rt (rt (rt (rt (rt (rt (Try.f23.body.getD .skip)))))))) (bodyPost Try.prog Try.f23 (GoneEnd a b w)) ⟨#[.slice p a.length c, .slice q b.length d, u2, u3, .slice none 0 0, u5, .slice qx nx cx, u7, .slice qb L cb, u9, u10, u11, u12, u13, u14, u15, u16, u17, u18, u19, u20, u21, u22, u23, u24, u25, u26, u27, u28, u29, u30, u31, u32, u33, u34, u35, u36, u37, u38, u39, u40, u41, u42, u43, u44, u45, u46, u47, u48, u49, u50, u51, u52, u53, u54, u55, u56, u57, u58, u59, u60, u61, u62, u63, u64, u65, u66, u67, u68, u69, u70, u71, u72, u73, u74, u75, u76, u77, u78, u79, u80, u81, u82, u83, u84, u85, u86, u87, u88, u89, u90, u91, u92, u93, u94, u95, u96, u97, u98, u99, u100, u101, u102, u103, u104, u105, u106, u107, u108, u109, u110, u111, u112, u113, u114, u115, u116, u117, u118, u119, u120, u121, u122, u123, u124, u125, u126, u127, u128, u129, u130, u131, u132, u133, u134, u135, u136, u137, u138, u139, u140, u141, u142, u143, u144, u145, u146, u147, u148, u149, u150, u151, u152, u153, u154, u155, u156, u157, u158, u159, u160, u161, u162, u163, u164], []⟩ W := by
  have hmax : maxLen = 9223372036854775807 := rfl
  conv => arg 2; whnf
  conv => arg 4; zeta
  obtain ⟨l5, l6, k1, k2⟩ := chk_zero hK.h0
  have hca := coe_of k1; have hcb := coe_of k2
  have g1 := grt_six hca; have g2 := grt_six hcb
  have n1 := grt_nonneg a; have n2 := grt_nonneg b
  obtain ⟨G, hG⟩ : ∃ G : Nat, grt a + grt b = (G : Int) := ⟨(grt a + grt b).toNat, by omega⟩
  have hG12 : G ≤ 12 := by omega
  have hnx : nx ≤ 16807 := by
    have := vx_len hK.h0
    rw [← hK.xl, List.length_map, hK.xn] at this
    exact this
  have HK := hid hK; have HLW := hid hlow; have HGG := hid hG; have HCA := hid hca; have HCB := hid hcb
  have HGA := hid (fun W' (hb : Below W.heap.size W W') => rgreatest_any p c a W' (hK.ia.below hb))
  have HGB := hid (fun W' (hb : Below W.heap.size W W') => rgreatest_any q d b W' (hK.ib.below hb))
  obtain ⟨GA, hGA⟩ : ∃ z, grt a = z := ⟨_, rfl⟩
  obtain ⟨GB, hGB⟩ : ∃ z, grt b = z := ⟨_, rfl⟩
  rw [hGA] at HGA g1 n1 hG
  rw [hGB] at HGB g2 n2 hG
  have hGw : IntKind.i64.wrap (GA + GB) = (G : Int) := by rw [hG]; exact IntWalk.i64_in _ (by constructor <;> omega)
  clear hK hlow k1 k2 hca hcb hG hGA hGB
  go_wp2_with fail
  go_loopw [11, 12] (fun fv sv wr => ∃ (s : Nat) (fs : List Vc), s ≤ G ∧ sv = .int .i64 ((s + 1 : Nat) : Int) ∧ Nx W fv fs wr ∧ fs.map Vc.l = foundF a b s) (fun _ sv _ => G + 1 - (intOf sv).toNat)
  case atStart => exact ⟨0, [], Nat.zero_le _, rfl, ⟨XRow.nil _ _, Below.refl _ _, fun x hx => by cases hx⟩, rfl⟩
  case round =>
    obtain ⟨s, fs, hs, rfl, hNx, hfs⟩ := hrel
    rename World => wr
    have HN0 := hid hNx; have HFS := hid hfs
    have hfl : fs.length ≤ 13060694016 := by
      have h1 := (part_len HK.out.h0 s (s + 1) rfl [] (fun v hv => by cases hv)).1
      rw [List.foldl_nil, ← hfs, List.length_map] at h1
      exact h1
    have HA1 := hid (HGA.out wr hNx.low); have HB1 := hid (HGB.out wr hNx.low)
    obtain ⟨s1, hs1⟩ : ∃ s1, s + 1 = s1 := ⟨_, rfl⟩
    rw [hs1]
    have HS1 := hid hs1
    clear hNx hfs
    by_cases hlt : s1 ≤ G
    · go_wp2_with fail
      refine HA1.out.mono ?_
      rintro e wr2 ⟨rfl, hwr2⟩
      subst hwr2
      go_wp2_with fail
      refine HB1.out.mono ?_
      rintro e wr2 ⟨rfl, hwr2⟩
      subst hwr2
      clear HA1 HB1
      go_wp2_with fail
      go_loopw [11, 13] (fun fv iv wx => ∃ (i : Nat) (fs' : List Vc), i ≤ nx ∧ iv = .int .i64 i ∧ Nx W fv fs' wx ∧ fs'.map Vc.l = (((vx a b).take i).flatMap (cand a b (vy a b) (s1 : Int))).foldl stepF (foundF a b s)) (fun _ iv _ => nx - (intOf iv).toNat)
      case atStart => exact ⟨0, fs, Nat.zero_le _, rfl, HN0.out, by rw [HFS.out]; simp⟩
      case round =>
        obtain ⟨i, fs', hi, rfl, hNx, hfs⟩ := hrel
        rename World => wx
        by_cases hil : i < nx
        · have hiv : i < xs.length := by rw [HK.out.xn]; exact hil
          have hiV : i < (vx a b).length := by rw [← HK.out.xl, List.length_map]; exact hiv
          have hgx : xs[i].l = (vx a b)[i] := by
            have h1 : (xs.map Vc.l)[i]'(by rw [List.length_map]; exact hiv) = (vx a b)[i] := by simp only [HK.out.xl]
            rw [List.getElem_map] at h1
            exact h1
          have hmx := (vecs_mem _ _ _).1 (List.getElem_mem hiV)
          have hft := flat_take a b (s1 : Int) i hiV (foundF a b s)
          have hxV : xs[i].l ∈ vx a b := by rw [hgx]; exact List.getElem_mem hiV
          rw [← hgx] at hmx hft
          obtain ⟨gx, hgx0⟩ : ∃ gx, qx = some ⟨gx, 0, none⟩ := by obtain ⟨gx, h, _⟩ := HK.out.hx.cell i hiv; exact ⟨gx, h⟩
          subst hgx0
          have hcx : ∀ W', Below W.heap.size W W' → W'.cell? ⟨gx, i, none⟩ = some (vcV xs[i]) ∧ VcAt W' xs[i] := fun W' hb => by
            obtain ⟨g', e, _, _, _, h⟩ := (HK.out.hx.below hb).cell i hiv
            injection e with e
            injection e with e _ _
            rw [← e] at h
            exact ⟨h, (HK.out.hx.below hb).vec _ (List.getElem_mem hiv)⟩
          obtain ⟨x, hx⟩ : ∃ x, xs[i] = x := ⟨_, rfl⟩
          rw [hx] at hmx hft hcx hxV
          obtain ⟨xb, xc, xl⟩ := x
          have hxl : xl.length = a.length := hmx.1
          have hxs : xl.sum ≤ 6 := by have := hmx.2; have h3 := grt_six HCB.out; have h4 : xl.sum ≤ (grt b).toNat := this; omega
          have hcnt : Cnt (toI xl) := toI_small hxs (by omega)
          obtain ⟨m, hm⟩ : ∃ m : Nat, prodI a (toI xl) = (m : Int) := ⟨_, prodI_S (toI xl) hcnt a HCA.out⟩
          obtain ⟨sg, hsg⟩ : ∃ z, xl.sum = z := ⟨_, rfl⟩
          have hsI : sumI (toI xl) = (sg : Int) := by rw [sumI_toI, hsg]
          have hTM := fun W' (hb : Below W.heap.size W W') => times_any p c a (some ⟨xb, 0, none⟩) xc (toI xl) W' (HK.out.ia.below hb) ((hcx W' hb).2.ints0 (show xl.length ≤ maxLen by omega)) HCA.out hcnt l5 (by rw [toI_len]; omega)
          have hSM := fun W' (hb : Below W.heap.size W W') => rsumI_any (some ⟨xb, 0, none⟩) xc (toI xl) W' ((hcx W' hb).2.ints0 (show xl.length ≤ maxLen by omega)) hcnt (by rw [toI_len]; omega)
          rw [hm, toI_len] at hTM
          rw [hsI, toI_len] at hSM
          have HTM := hid hTM; have HSM := hid hSM; have HFT := hid hft; have HXV := hid hxV; have HM := hid hm; have HSI := hid hsI; have HXL := hid hxl; have HNX := hid hNx; have HFF := hid hfs
          have hcx' : ∀ W', Below W.heap.size W W' → W'.cell? ⟨gx, i, none⟩ = some (.slice (some ⟨xb, 0, none⟩) xl.length xc) ∧ VcAt W' ⟨xb, xc, xl⟩ := hcx
          have HCX := hid hcx'
          have c1 := (hcx' wx hNx.low).1
          have hsg6 : sg ≤ 6 := by omega
          obtain ⟨lf, hlf⟩ : ∃ z, (s1 : Int) - (sg : Int) = z := ⟨_, rfl⟩
          have eL : IntKind.i64.wrap ((s1 : Int) - (sg : Int)) = lf := by rw [hlf]; exact IntWalk.i64_in _ (by constructor <;> omega)
          have HLF := hid hlf
          have hlf0 : -6 ≤ lf ∧ lf ≤ 13 := by omega
          clear hlf
          clear hgx hmx hft hxV hcx hcx' hx hcnt hm hsg hsI hTM hSM hNx hfs hxl hxs
          go_wp2_with fail
          refine (HTM.out wx HNX.out.low).mono ?_
          rintro e wx2 ⟨rfl, nw, hwx2⟩
          have hN2 := HNX.out.drewN nw
          rw [← hwx2] at hN2
          have HN2 := hid hN2
          clear c1
          have c1 := (HCX.out wx2 hN2.low).1
          clear hwx2 HNX HTM hN2
          go_wp2_with fail
          refine (HSM.out wx2 HN2.out.low).mono ?_
          rintro e wx3 ⟨rfl, hwx3⟩
          subst hwx3
          rename World => wx2
          obtain ⟨F1, hF1⟩ : ∃ F, (((vx a b).take i).flatMap (cand a b (vy a b) (s1 : Int))).foldl stepF (foundF a b s) = F := ⟨_, rfl⟩
          have HF1 := hid hF1
          rw [hF1] at HFF HFT
          clear hF1 HSM
          by_cases hm0 : m = 0
          · have HF : Hid (Nx W _ fs' wx2 ∧ fs'.map Vc.l = (((vx a b).take (i + 1)).flatMap (cand a b (vy a b) (s1 : Int))).foldl stepF (foundF a b s)) := hid ⟨HN2.out, by rw [HFT.out, cand_none (.inl (by rw [HM.out, hm0]; rfl))]; exact HFF.out⟩
            have hmz : ((m : Int) == 0) = true := by simp [hm0]
            clear hm0
            go_wp2_with fail
            go_roundw
            case rel => exact ⟨i + 1, fs', by omega, by go_num, HF.out⟩
            case measure => simp [intOf]; omega
          · have hmz : ((m : Int) == 0) = false := by simp; omega
            by_cases hmL : m < L
            · by_cases hl0 : lf < 0
              · have HF : Hid (Nx W _ fs' wx2 ∧ fs'.map Vc.l = (((vx a b).take (i + 1)).flatMap (cand a b (vy a b) (s1 : Int))).foldl stepF (foundF a b s)) := hid ⟨HN2.out, by rw [HFT.out, cand_none (.inr (.inr (by rw [HSI.out, HLF.out]; exact hl0)))]; exact HFF.out⟩
                go_wp2_with fail
                go_roundw
                case rel => exact ⟨i + 1, fs', by omega, by go_num, HF.out⟩
                case measure => simp [intOf]; omega
              · have hcR := HK.out.hb.cell m (by rw [HK.out.tl]; exact hmL)
                have hmT : m < Ts.length := by rw [HK.out.tl]; exact hmL
                obtain ⟨gb, hgb0⟩ : ∃ gb, qb = some ⟨gb, 0, none⟩ := by obtain ⟨gb, h, _⟩ := hcR; exact ⟨gb, h⟩
                clear hcR
                subst hgb0
                have htt := HK.out.tt m hmT
                have hcb : ∀ W', Below W.heap.size W W' → W'.cell? ⟨gb, m, none⟩ = some Ts[m].1 ∧ XRow W' 0 Ts[m].1 Ts[m].2 := fun W' hb => by
                  obtain ⟨g', e, _, h, _⟩ := (HK.out.hb.below hb).cell m hmT
                  injection e with e
                  injection e with e _ _
                  rw [← e] at h
                  exact ⟨h, (HK.out.hb.below hb).each _ (List.getElem_mem hmT)⟩
                obtain ⟨⟨r, ys⟩, hT⟩ : ∃ t, Ts[m] = t := ⟨_, rfl⟩
                rw [hT] at htt hcb
                dsimp only at htt hcb
                obtain ⟨qm, cm, rfl⟩ := (hcb W (Below.refl _ _)).2.form
                obtain ⟨R, hR⟩ : ∃ R, fitB b (vy a b) (m : Int) = R := ⟨_, rfl⟩
                have hRl : R.length ≤ 16807 := by rw [← hR]; exact fitB_len HK.out.h0 _
                rw [hR] at htt
                have hyl : ys.length = R.length := by rw [← htt, List.length_map]
                obtain ⟨lm, hlm⟩ : ∃ z, ys.length = z := ⟨_, rfl⟩
                rw [hlm] at hcb hyl
                have hcd : cand a b (vy a b) (s1 : Int) xl = triedK xl lf R R.length := by
                  rw [tried_all, cand_row (by rw [HM.out]; omega), HM.out, hR, HSI.out, HLF.out]
                have htm : ∀ k, ∀ v ∈ (((vx a b).take i).flatMap (cand a b (vy a b) (s1 : Int))) ++ triedK xl lf R k, v ∈ (vx a b).flatMap (cand a b (vy a b) (s1 : Int)) := fun k v hv => by
                  rcases List.mem_append.1 hv with hv | hv
                  · obtain ⟨z, hz, hv⟩ := List.mem_flatMap.1 hv
                    exact List.mem_flatMap.2 ⟨z, List.mem_of_mem_take hz, hv⟩
                  · exact List.mem_flatMap.2 ⟨xl, HXV.out, by rw [hcd, tried_all]; exact tried_sub hv⟩
                have HPL : Hid (∀ k, ((triedK xl lf R k).foldl stepF F1).length ≤ 13060694016 ∧ ∀ v ∈ (triedK xl lf R k).foldl stepF F1, v.length = a.length + b.length) := hid (fun k => by
                  have := part_len HK.out.h0 s s1 HS1.out _ (htm k)
                  rw [List.foldl_append, HF1.out] at this
                  exact this)
                have hyv : ∀ y ∈ R, y.length = b.length ∧ y.sum ≤ 6 := fun y hy => by
                  rw [← hR] at hy
                  have h1 := (vecs_mem _ _ _).1 (List.mem_filter.1 hy).1
                  have h3 := grt_six HCA.out
                  exact ⟨h1.1, by have := h1.2; omega⟩
                have HYV := hid hyv; have HTT := hid htt; have HCD := hid hcd; have HCB2 := hid hcb; have HLM := hid hlm; have HYL := hid hyl
                have hlm2 : lm ≤ 16807 := by omega
                have c2 := (hcb wx2 HN2.out.low).1
                have hdL : decide (L ≤ m) = false := decide_eq_false (by omega)
                have hd0 : decide (lf < 0) = false := decide_eq_false hl0
                clear htt hcb hT hR hRl hyl hlm hcd htm hyv
                go_wp2_with fail
                go_loopw [11, 16] (fun fv kv wy => ∃ (k : Nat) (fs2 : List Vc), k ≤ lm ∧ kv = .int .i64 k ∧ Nx W fv fs2 wy ∧ fs2.map Vc.l = (triedK xl lf R k).foldl stepF F1) (fun _ kv _ => lm - (intOf kv).toNat)
                case atStart => exact ⟨0, fs', Nat.zero_le _, rfl, HN2.out, by rw [HFF.out]; simp [triedK]⟩
                case round =>
                  obtain ⟨k, fs2, hk, rfl, hNy, hf2⟩ := hrel
                  rename World => wy
                  have HNY := hid hNy; have HF2 := hid hf2
                  clear c1 c2
                  have c1 := (HCX.out wy hNy.low).1
                  have c2 := (HCB2.out wy hNy.low).1
                  clear hNy hf2
                  by_cases hkl : k < lm
                  · have hky : k < ys.length := by rw [HLM.out]; exact hkl
                    have hkR : k < R.length := by rw [← HYL.out]; exact hkl
                    have hgy : ys[k].l = R[k] := by
                      have h1 : (ys.map Vc.l)[k]'(by rw [List.length_map]; exact hky) = R[k] := by simp only [HTT.out]
                      rw [List.getElem_map] at h1
                      exact h1
                    have hyv := HYV.out _ (List.getElem_mem hkR)
                    have hno := tried_no xl lf R k hkR
                    have hyes := tried_yes xl lf R k hkR
                    rw [← hgy] at hyv hno hyes
                    obtain ⟨gm, hgm⟩ : ∃ gm, qm = some ⟨gm, 0, none⟩ := by obtain ⟨gm, h, _⟩ := (HCB2.out wy HNY.out.low).2.cell k hky; exact ⟨gm, h⟩
                    subst hgm
                    have hcy : ∀ W', Below W.heap.size W W' → W'.cell? ⟨gm, k, none⟩ = some (vcV ys[k]) ∧ VcAt W' ys[k] := fun W' hb => by
                      obtain ⟨g', e, _, _, _, h⟩ := (HCB2.out W' hb).2.cell k hky
                      injection e with e
                      injection e with e _ _
                      rw [← e] at h
                      exact ⟨h, (HCB2.out W' hb).2.vec _ (List.getElem_mem hky)⟩
                    obtain ⟨⟨yb, yc, yl⟩, hy⟩ : ∃ y, ys[k] = y := ⟨_, rfl⟩
                    rw [hy] at hyv hno hyes hcy
                    have hyl2 : yl.length = b.length := hyv.1
                    have hys : yl.sum ≤ 6 := hyv.2
                    have hno' : sumI (toI yl) ≠ lf → triedK xl lf R (k + 1) = triedK xl lf R k := hno
                    have hyes' : sumI (toI yl) = lf → triedK xl lf R (k + 1) = triedK xl lf R k ++ [xl ++ yl] := hyes
                    have hcy' : ∀ W', Below W.heap.size W W' → W'.cell? ⟨gm, k, none⟩ = some (.slice (some ⟨yb, 0, none⟩) yl.length yc) ∧ VcAt W' ⟨yb, yc, yl⟩ := hcy
                    have hcnt : Cnt (toI yl) := toI_small hys (by omega)
                    have hsI : sumI (toI yl) = ((yl.sum : Nat) : Int) := sumI_toI yl
                    obtain ⟨sy, hsy⟩ : ∃ z, yl.sum = z := ⟨_, rfl⟩
                    rw [hsy] at hsI
                    have hSM := rsumI_any (some ⟨yb, 0, none⟩) yc (toI yl) wy ((hcy' wy HNY.out.low).2.ints0 (show yl.length ≤ maxLen by omega)) hcnt (by rw [toI_len]; omega)
                    rw [hsI, toI_len] at hSM
                    rw [hsI] at hno' hyes'
                    have HSM2 := hid hSM; have HNO := hid hno'; have HYES := hid hyes'; have HCY := hid hcy'; have HYL2 := hid hyl2
                    have c3 := (hcy' wy HNY.out.low).1
                    clear hgy hyv hno hyes hcy hy hyl2 hys hno' hyes' hcy' hcnt hsI hsy hSM hky hkR
                    by_cases hne : (sy : Int) = lf
                    · have hne2 : ((sy : Int) != lf) = false := by simpa using hne
                      have HYS := hid (HYES.out hne)
                      clear hne HNO HYES
                      go_wp2_with fail
                      refine HSM2.out.mono ?_
                      rintro e wy2 ⟨rfl, hwy2⟩
                      subst hwy2
                      rename World => wy
                      clear HSM2
                      have hxlen := HXL.out; have hylen := HYL2.out
                      obtain ⟨p1, cc1, wA, r1, o1, bA⟩ := app_new wy.drew (some ⟨xb, 0, none⟩) xc (toI xl) ((HCX.out wy.drew HNY.out.low.drew).2.ints0 (show xl.length ≤ maxLen by omega)) (fun e => by cases e) (by rw [toI_len]; omega)
                      have bA' : Below wy.heap.size wy wA := ((Below.refl _ wy).drew).trans bA
                      have hlA := HNY.out.low.trans (bA'.mono HNY.out.low.size)
                      obtain ⟨p2, cc2, wB, r2, o2, bB⟩ := app_more wy wA wy.heap.size p1 cc1 (toI xl) o1 bA'.size bA' (some ⟨yb, 0, none⟩) yc (toI yl) ((HCY.out wA hlA).2.ints0 (show yl.length ≤ maxLen by omega)) (fun e => by cases e) (by rw [toI_len, toI_len]; omega)
                      rw [toI_len] at r1
                      rw [toI_len, toI_len] at r2 o2
                      rw [← toI_append] at o2
                      have hpos : 0 < xl.length := by
                        rcases Nat.eq_zero_or_pos xl.length with h | h
                        · have h1 := HM.out
                          rw [List.eq_nil_of_length_eq_zero h] at h1
                          have h2 : prodI a (toI []) = 0 := by cases a <;> rfl
                          omega
                        · exact h
                      obtain ⟨gv, rfl, hgv, hvv⟩ := own_vc (l := xl ++ yl) o2 (by simp) (by omega)
                      have hlB := HNY.out.low.trans (bB.mono HNY.out.low.size)
                      have HNB := hid (HNY.out.below bB)
                      have r1' : (Builtin.append_ #[27, 27] 27 #[.slice (some ⟨wy.heap.size, 0, none⟩) 0 0, .slice (some ⟨xb, 0, none⟩) xl.length xc]).run Try.prog (wy.alloc (.cells #[] 3)).drew = .ok (.slice p1 xl.length cc1) wA := r1
                      have bE := (alloc_below0 wy (.cells #[] 3)).drew
                      have hS : ∀ W', Below W.heap.size W W' → W'.cell? ⟨gx, i, none⟩ = some (.slice (some ⟨xb, 0, none⟩) xl.length xc) ∧ W'.cell? ⟨gb, m, none⟩ = some (.slice (some ⟨gm, 0, none⟩) lm cm) ∧ W'.cell? ⟨gm, k, none⟩ = some (.slice (some ⟨yb, 0, none⟩) yl.length yc) := fun W' hb => ⟨(HCX.out W' hb).1, (HCB2.out W' hb).1, (HCY.out W' hb).1⟩
                      have sD := hid (hS wy.drew HNY.out.low.drew)
                      have sE := hid (hS (wy.alloc (.cells #[] 3)).drew (HNY.out.low.trans (bE.mono HNY.out.low.size)))
                      have sA := hid (hS wA hlA)
                      have sB := hid (hS wB hlB)
                      have HVV := hid hvv; have HGV : Hid (W.heap.size ≤ gv) := hid (Nat.le_trans HNY.out.low.size hgv)
                      obtain ⟨NN, hNN⟩ : ∃ z, xl.length + yl.length = z := ⟨_, rfl⟩
                      rw [hNN] at r2
                      have HNN := hid hNN
                      clear r1 o1 bA bA' hlA o2 bB hpos hgv hlB bE hS hvv hNN hxlen hylen
                      go_upto_region 28 with fail
                      go_cut [17] (fun v wc => v = .slice (some ⟨gv, 0, none⟩) NN cc2 ∧ wc = wB)
                      case first =>
                        go_region_held3 (fun w' => w'.cell? ⟨gx, i, none⟩ = some (.slice (some ⟨xb, 0, none⟩) xl.length xc) ∧ w'.cell? ⟨gb, m, none⟩ = some (.slice (some ⟨gm, 0, none⟩) lm cm) ∧ w'.cell? ⟨gm, k, none⟩ = some (.slice (some ⟨yb, 0, none⟩) yl.length yc)) ((first | exact sD.out | exact sE.out | exact sA.out | exact sB.out | fail)) ((first
                          | ((with_reducible refine step_append_run ?_ (.tmp 127) (.tmp 131) 27 ?_ _ _ ?_ ?_ _ _ r1' ?_); (solve | rfl); (solve | rfl); (solve | rfl); (solve | rfl))
                          | ((with_reducible refine step_append_run ?_ (.tmp 132) (.tmp 139) 27 ?_ _ _ ?_ ?_ _ _ r2 ?_); (solve | rfl); (solve | rfl); (solve | rfl); (solve | rfl))
                          | fail))
                        all_goals (go_wp2_with fail; go_meet)
                        all_goals exact ⟨rfl, rfl⟩
                      case rest =>
                      obtain ⟨rfl, rfl⟩ := hcut
                      rename World => wB
                      clear r1' r2 sD sE sA sB c1 c2 c3 HNY
                      have hpl := HPL.out k
                      have hf2 := HF2.out
                      rw [← hf2] at hpl
                      have hnf : fs2.length ≤ 13060694016 := by have := hpl.1; rw [List.length_map] at this; exact this
                      obtain ⟨qf, cf, hqf⟩ := HNB.out.row.form
                      have hfle : ∀ j (hj : j < fs2.length), fs2[j].l.length = NN := fun j hj => by
                        rw [hpl.2 fs2[j].l (List.mem_map.2 ⟨fs2[j], List.getElem_mem hj, rfl⟩), ← HNN.out, HXL.out, HYL2.out]
                      have HFLE := hid hfle
                      have HST : Hid ((triedK xl lf R (k + 1)).foldl stepF F1 = stepF (fs2.map Vc.l) (xl ++ yl)) := hid (by rw [HYS.out, List.foldl_append, ← hf2]; rfl)
                      obtain ⟨nf, hnfe⟩ : ∃ z, fs2.length = z := ⟨_, rfl⟩
                      rw [hnfe] at hnf hqf
                      have HNF := hid hnfe
                      obtain ⟨vl, hvl⟩ : ∃ z, xl ++ yl = z := ⟨_, rfl⟩
                      rw [hvl] at HST HVV
                      have hvlen : vl.length = NN := by rw [← hvl, List.length_append]; exact HNN.out
                      have HVL := hid hvlen
                      have hNN10 : NN ≤ 10 := by have h1 := HNN.out; have h2 := HXL.out; have h3 := HYL2.out; omega
                      subst hqf
                      clear hpl hf2 hfle hnfe hvl hvlen
                      go_upto_block 10 with fail
                      go_cut [18] (fun lv wc => lv = .bool (!((fs2.map Vc.l).any (fun u => belN u vl))) ∧ ∃ n, wc = wB.drewN n)
                      case first =>
                        go_wp2_with fail
                        go_loopw [18, 19] (fun lv jv wz => ∃ j : Nat, j ≤ nf ∧ jv = .int .i64 j ∧ lv = .bool (!(((fs2.map Vc.l).take j).any (fun u => belN u vl))) ∧ ∃ n, wz = wB.drewN n) (fun _ jv _ => nf - (intOf jv).toNat)
                        case atStart => exact ⟨0, Nat.zero_le _, rfl, by simp, 0, rfl⟩
                        case round =>
                          obtain ⟨j, hj, rfl, rfl, nz, hwz⟩ := hrel
                          rename World => wz
                          have HWZ : Hid (∃ n, wz = wB.drewN n) := hid ⟨nz, hwz⟩
                          cases hany : ((fs2.map Vc.l).take j).any (fun u => belN u vl) with
                          | true =>
                            have HAL : Hid ((fs2.map Vc.l).any (fun u => belN u vl) = true) := hid (any_of_take _ _ j hany)
                            clear hwz hany
                            by_cases hjl : j < nf
                            · go_wp2_with fail
                              go_meet
                              exact ⟨by rw [HAL.out], HWZ.out⟩
                            · go_wp2_with fail
                              go_meet
                              exact ⟨by rw [HAL.out], HWZ.out⟩
                          | false =>
                            by_cases hjl : j < nf
                            · have hjf : j < fs2.length := by rw [HNF.out]; exact hjl
                              have hNz := HNB.out.drewN nz
                              rw [← hwz] at hNz
                              have hVz : VcAt wz ⟨gv, cc2, vl⟩ := by rw [hwz]; exact HVV.out.same (by rw [heap_drewN])
                              obtain ⟨gf, hgf, _, _, _, hcf⟩ := hNz.row.cell j hjf
                              subst hgf
                              have hvf := hNz.row.vec _ (List.getElem_mem hjf)
                              have hlf2 := HFLE.out j hjf
                              have hmo := any_more (fs2.map Vc.l) vl j (by rw [List.length_map]; exact hjf)
                              rw [hany, List.getElem_map] at hmo
                              obtain ⟨⟨fb, fc, fl⟩, hfe⟩ : ∃ z, fs2[j] = z := ⟨_, rfl⟩
                              rw [hfe] at hcf hvf hlf2 hmo
                              have hlf3 : fl.length = NN := hlf2
                              have hBL := below_any (some ⟨fb, 0, none⟩) fc (toI fl) (some ⟨gv, 0, none⟩) cc2 (toI vl) wz (hvf.ints0 (show fl.length ≤ maxLen by omega)) (hVz.ints0 (show vl.length ≤ maxLen by have := HVL.out; omega)) (by rw [toI_len, toI_len, hlf3, HVL.out])
                              rw [toI_len, toI_len, hlf3, HVL.out] at hBL
                              obtain ⟨T, hT⟩ : ∃ T, belV (toI fl) (toI vl) = T := ⟨_, rfl⟩
                              rw [hT] at hBL
                              have hmo2 : ((fs2.map Vc.l).take (j + 1)).any (fun u => belN u vl) = T := by rw [hmo, Bool.false_or]; exact hT
                              have hcf' : wz.cell? ⟨gf, j, none⟩ = some (.slice (some ⟨fb, 0, none⟩) NN fc) := by rw [hcf]; show some (Value.slice (some ⟨fb, 0, none⟩) fl.length fc) = _; rw [hlf3]
                              have HBL := hid hBL; have HMO := hid hmo2
                              clear hwz hany hNz hVz hcf hvf hlf2 hlf3 hmo hmo2 hfe hBL hT hjf
                              go_wp2_with fail
                              refine HBL.out.mono ?_
                              rintro e wz2 ⟨rfl, nz2, hwz2⟩
                              have HWZ2 : Hid (∃ n, wz2 = wB.drewN n) := hid (by rw [hwz2]; exact drew_more HWZ.out _)
                              clear hwz2
                              go_wp2_with fail
                              go_roundw
                              case rel => exact ⟨j + 1, by omega, by go_num, by rw [HMO.out], HWZ2.out⟩
                              case measure => simp [intOf]; omega
                            · have hjn : j = nf := by omega
                              have HAL : Hid ((fs2.map Vc.l).any (fun u => belN u vl) = false) := hid (by
                                rw [List.take_of_length_le (by rw [List.length_map, HNF.out]; omega)] at hany
                                exact hany)
                              clear hwz hany
                              go_wp2_with fail
                              go_meet
                              exact ⟨by rw [HAL.out], HWZ.out⟩
                      case rest =>
                      obtain ⟨rfl, nc, hwc⟩ := hcut
                      rename World => wc
                      have hNc := HNB.out.drewN nc
                      have hVc : VcAt (wB.drewN nc) ⟨gv, cc2, vl⟩ := HVV.out.same (by rw [heap_drewN])
                      rw [← hwc] at hNc hVc
                      cases hany : (fs2.map Vc.l).any (fun u => belN u vl) with
                      | true =>
                        have HF : Hid (Nx W _ fs2 wc ∧ fs2.map Vc.l = (triedK xl lf R (k + 1)).foldl stepF F1) := hid ⟨hNc, by rw [HST.out]; unfold stepF; rw [if_pos hany]⟩
                        clear hwc hNc hVc hany
                        go_wp2_with fail
                        go_roundw
                        case rel => exact ⟨k + 1, fs2, by omega, by go_num, HF.out⟩
                        case measure => simp [intOf]; omega
                      | false =>
                        obtain ⟨nv', wD, r3, hND⟩ := hNc.app (Below.refl _ _) ⟨gv, cc2, vl⟩ hVc HGV.out (by rw [HNF.out]; omega)
                        have r3' : (Builtin.append_ #[23, 23] 23 #[.slice qf nf cf, .slice (some ⟨wc.heap.size, 0, none⟩) 1 1]).run Try.prog (wc.alloc (.cells #[.slice (some ⟨gv, 0, none⟩) NN cc2] 27)) = .ok nv' wD := by
                          have e : vcV ⟨gv, cc2, vl⟩ = .slice (some ⟨gv, 0, none⟩) NN cc2 := by show Value.slice (some ⟨gv, 0, none⟩) vl.length cc2 = _; rw [HVL.out]
                          rw [e] at r3
                          exact r3
                        have HF : Hid (Nx W nv' (fs2 ++ [⟨gv, cc2, vl⟩]) wD ∧ (fs2 ++ [(⟨gv, cc2, vl⟩ : Vc)]).map Vc.l = (triedK xl lf R (k + 1)).foldl stepF F1) := hid ⟨hND, by rw [HST.out]; unfold stepF; rw [hany, List.map_append]; rfl⟩
                        have R3 := hid r3'
                        clear hwc hNc hVc hany r3 r3' hND
                        go_wp2_with (first
                          | (at_builtin; refine Lib.wpList_append_run _ rfl _ _ _ _ rfl _ _ rfl rfl _ _ R3.out ?_; clear R3)
                          | fail)
                        go_roundw
                        case rel => exact ⟨k + 1, _, by omega, by go_num, HF.out⟩
                        case measure => simp [intOf]; omega
                    · have hne2 : ((sy : Int) != lf) = true := by simpa using hne
                      have HF : Hid (Nx W _ fs2 wy ∧ fs2.map Vc.l = (triedK xl lf R (k + 1)).foldl stepF F1) := hid ⟨HNY.out, by rw [HNO.out hne]; exact HF2.out⟩
                      clear hne HNO HYES
                      go_wp2_with fail
                      refine HSM2.out.mono ?_
                      rintro e wy2 ⟨rfl, hwy2⟩
                      subst hwy2
                      go_wp2_with fail
                      go_roundw
                      case rel => exact ⟨k + 1, fs2, by omega, by go_num, HF.out⟩
                      case measure => simp [intOf]; omega
                  · have hkR : k = lm := by omega
                    have HF : Hid (Nx W _ fs2 wy ∧ fs2.map Vc.l = (((vx a b).take (i + 1)).flatMap (cand a b (vy a b) (s1 : Int))).foldl stepF (foundF a b s)) := hid ⟨HNY.out, by rw [HFT.out, HCD.out, HF2.out, hkR, HYL.out]⟩
                    go_wp2_with fail
                    go_roundw
                    case rel => exact ⟨i + 1, fs2, by omega, by go_num, HF.out⟩
                    case measure => simp [intOf]; omega
            · have HF : Hid (Nx W _ fs' wx2 ∧ fs'.map Vc.l = (((vx a b).take (i + 1)).flatMap (cand a b (vy a b) (s1 : Int))).foldl stepF (foundF a b s)) := hid ⟨HN2.out, by rw [HFT.out, cand_none (.inr (.inl (fun y hy e => by have := HK.out.ty y hy; rw [e, HM.out] at this; omega)))]; exact HFF.out⟩
              go_wp2_with fail
              go_roundw
              case rel => exact ⟨i + 1, fs', by omega, by go_num, HF.out⟩
              case measure => simp [intOf]; omega
        · have hin : i = nx := by omega
          have HF : Hid (Nx W _ fs' wx ∧ fs'.map Vc.l = foundF a b s1) := hid ⟨hNx, by
            rw [hfs, List.take_of_length_le (by rw [← HK.out.xl, List.length_map, HK.out.xn]; omega), ← HS1.out, foundF]
            rfl⟩
          clear hNx hfs
          go_wp2_with fail
          go_roundw
          case rel => exact ⟨s1, fs', by omega, by go_num, HF.out⟩
          case measure => simp [intOf]; omega
    · have hsG : s = G := by omega
      have hlen : ∀ x ∈ fs, x.l.length = a.length + b.length := fun x hx => by
        have h1 : x.l ∈ foundF a b s := by rw [← HFS.out]; exact List.mem_map.2 ⟨x, hx, rfl⟩
        have h2 := (ml_sol HK.out.h0 ((found_inv HK.out.h0 s).min _ h1)).1
        rw [toI_len] at h2
        exact h2
      obtain ⟨qf, cf, hqf⟩ := HN0.out.row.form
      subst hqf
      have hso := sorted_any W.heap.size qf fs.length cf (a.length + b.length) fs wr HN0.out.row rfl hlen (by omega) hfl
      have HSO := hid hso
      clear hso hlen
      go_wp2_with fail
      refine HA1.out.mono ?_
      rintro e wr2 ⟨rfl, hwr2⟩
      subst hwr2
      go_wp2_with fail
      refine HB1.out.mono ?_
      rintro e wr2 ⟨rfl, hwr2⟩
      subst hwr2
      clear HA1 HB1
      go_wp2_with fail
      refine HSO.out.mono ?_
      rintro e w9 ⟨hb9, v, ms, rfl, hX9, hp9, hs9⟩
      have HE : Hid (GoneEnd a b w (.returned v) w9) := hid ⟨HLW.out.trans ((HN0.out.low.trans (hb9.mono HN0.out.low.size)).mono HLW.out.size), .inr ⟨HK.out.h0, v, ms, rfl, ⟨(hp9.map Vc.l).trans (by rw [HFS.out, hsG]; exact found_all HK.out.h0 G HGG.out), List.pairwise_map.2 hs9⟩, hX9.mono (Nat.le_trans HLW.out.size HN0.out.low.size), fun x hx => Nat.le_trans HLW.out.size (HN0.out.new x (hp9.subset hx))⟩⟩
      clear hb9 hX9 hp9 hs9 HSO
      go_wp2_with fail
      go_ret
      exact HE.out
end Go.Proofs.Ytbdkogccjnmfoaa
