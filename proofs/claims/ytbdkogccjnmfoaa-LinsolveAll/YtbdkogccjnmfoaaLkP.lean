/- The document's All: its table, and the whole. -/
import Derived.Test.YtbdkogccjnmfoaaLkO
import Derived.Deep.RegionLaw
namespace Go.Proofs.Ytbdkogccjnmfoaa
open Go.RowKit Go.Shelf

def lenV : Value → Nat
  | .slice _ n _ => n
  | _ => 0
theorem fitB_more (b : List Int) (Y : List (List Nat)) (i : Nat) (hi : i < Y.length) (m : Int) : fitB b (Y.take (i + 1)) m = fitB b (Y.take i) m ++ (if prodI b (toI Y[i]) = m then [Y[i]] else []) := by
  unfold fitB
  rw [List.take_add_one, List.getElem?_eq_getElem hi, List.filter_append]
  congr 1
  by_cases h : prodI b (toI Y[i]) = m
  · simp [h]
  · simp [h]
/-- What the table holds of the first vectors. -/
structure TabAt (b : List Int) (Y : List (List Nat)) (i : Nat) (Ts : List (Value × List Vc)) : Prop where
  tt : ∀ m (h : m < Ts.length), (Ts[m].2).map Vc.l = fitB b (Y.take i) (m : Int)
  ty : ∀ y ∈ Y.take i, prodI b (toI y) < (Ts.length : Int)
  le : Ts.length ≤ 37
theorem TabAt.grow {b : List Int} {Y : List (List Nat)} {i : Nat} {Ts : List (Value × List Vc)} (h : TabAt b Y i Ts) (hl : Ts.length < 37) : TabAt b Y i (Ts ++ [(.slice none 0 0, [])]) where
  tt := fun m hm => by
    rw [List.length_append, List.length_singleton] at hm
    by_cases hm2 : m < Ts.length
    · rw [List.getElem_append_left hm2]
      exact h.tt m hm2
    · have e : m = Ts.length := by omega
      subst e
      rw [List.getElem_append_right (Nat.le_refl _)]
      simp
      unfold fitB
      refine List.filter_eq_nil_iff.2 (fun y hy => ?_)
      have := h.ty y hy
      simp
      omega
  ty := fun y hy => by have := h.ty y hy; rw [List.length_append, List.length_singleton]; omega
  le := by rw [List.length_append, List.length_singleton]; omega
theorem TabAt.put {b : List Int} {Y : List (List Nat)} {i : Nat} {Ts : List (Value × List Vc)} (h : TabAt b Y i Ts) (hi : i < Y.length) (m : Nat) (hm : m < Ts.length) (hp : prodI b (toI Y[i]) = (m : Int)) (r' : Value) (x : Vc) (hx : x.l = Y[i]) : TabAt b Y (i + 1) (Ts.set m (r', Ts[m].2 ++ [x])) where
  tt := fun k hk => by
    rw [List.length_set] at hk
    rw [List.getElem_set, fitB_more b Y i hi, hp]
    by_cases e : m = k
    · subst e
      rw [if_pos rfl, if_pos rfl, List.map_append, h.tt m hm, List.map_singleton, hx]
    · rw [if_neg e, if_neg (by omega), List.append_nil]
      exact h.tt k hk
  ty := fun y hy => by
    rw [List.length_set]
    rw [List.take_add_one, List.getElem?_eq_getElem hi] at hy
    rcases List.mem_append.1 hy with hy | hy
    · exact h.ty y hy
    · simp at hy
      rw [hy, hp]
      omega
  le := by rw [List.length_set]; exact h.le
theorem tab_none (b : List Int) (Y : List (List Nat)) : TabAt b Y 0 [] := ⟨fun m hm => absurd hm (Nat.not_lt_zero m), fun y hy => by simp at hy, Nat.zero_le _⟩
theorem prod_small {b : List Int} (hb : Coe b) {y : List Nat} (hy : y.sum ≤ 6) : ∃ m : Nat, prodI b (toI y) = (m : Int) ∧ m ≤ 36 := by
  refine ⟨_, prodI_S (toI y) (toI_small hy (by omega)) b hb, ?_⟩
  have h1 := S_tot (fun i => (b.getD i 0).toNat) (fun i => ((toI y).getD i 0).toNat) 6 b.length (fun i hi => by
    have := hb.get i hi
    rw [getD_lt b i hi]
    omega)
  have h2 : ∀ n, tot (fun i => ((toI y).getD i 0).toNat) n ≤ y.sum := by
    have key : ∀ (l : List Nat) n, tot (fun i => ((toI l).getD i 0).toNat) n ≤ l.sum := by
      intro l
      induction l with
      | nil =>
        intro n
        have : tot (fun i => ((toI []).getD i 0).toNat) n = 0 := by
          unfold tot
          rw [S_ext (fun _ => 1) (x := fun i => ((toI []).getD i 0).toNat) (y := fun _ => 0) n (fun i _ => by simp [toI]), S_zero]
        omega
      | cons x l ih =>
        intro n
        have hs : ∀ n, tot (fun i => ((toI (x :: l)).getD i 0).toNat) (n + 1) = x + tot (fun i => ((toI l).getD i 0).toNat) n := by
          intro n
          induction n with
          | zero => simp [tot, S, toI]
          | succ n ihn =>
            have e1 : tot (fun i => ((toI (x :: l)).getD i 0).toNat) (n + 1 + 1) = tot (fun i => ((toI (x :: l)).getD i 0).toNat) (n + 1) + ((toI l).getD n 0).toNat := by
              show S _ _ (n + 1 + 1) = _
              rw [S]
              unfold tot
              simp [toI]
            have e2 : tot (fun i => ((toI l).getD i 0).toNat) (n + 1) = tot (fun i => ((toI l).getD i 0).toNat) n + ((toI l).getD n 0).toNat := by
              show S _ _ (n + 1) = _
              rw [S]
              unfold tot
              simp
            rw [e1, ihn, e2]
            omega
        cases n with
        | zero => exact Nat.zero_le _
        | succ n =>
          rw [hs n, List.sum_cons]
          have := ih n
          omega
    exact key y
  have h3 := h2 b.length
  omega
set_option maxRecDepth 1000000 in
set_option maxHeartbeats 16000000 in
theorem rall_tail2 (p : Option Addr) (c : Nat) (a : List Int) (q : Option Addr) (d : Nat) (b : List Int) (w W : World) (qx : Option Addr) (nx cx : Nat) (xs : List Vc) (qy : Option Addr) (ny cy : Nat) (ys : List Vc) (h0 : chkE a b = 0) (hA : IntsAt W p a) (hB : IntsAt W q b) (hX : XRow W 0 (.slice qx nx cx) xs) (hxl : xs.map Vc.l = vx a b) (hxn : xs.length = nx) (hY : XRow W 0 (.slice qy ny cy) ys) (hyl : ys.map Vc.l = vy a b) (hyn : ys.length = ny) (hlow : Below w.heap.size w W) (u2 u3 u5 u8 u9 u10 u11 u12 u13 u14 u15 u16 u17 u18 u19 u20 u21 u22 u23 u24 u25 u26 u27 u28 u29 u30 u31 u32 u33 u34 u35 u36 u37 u38 u39 u40 u41 u42 u43 u44 u45 u46 u47 u48 u49 u50 u51 u52 u53 u54 u55 u56 u57 u58 u59 u60 u61 u62 u63 u64 u65 u66 u67 u68 u69 u70 u71 u72 u73 u74 u75 u76 u77 u78 u79 u80 u81 u82 u83 u84 u85 u86 u87 u88 u89 u90 u91 u92 u93 u94 u95 u96 u97 u98 u99 u100 u101 u102 u103 u104 u105 u106 u107 u108 u109 u110 u111 u112 u113 u114 u115 u116 u117 u118 u119 u120 u121 u122 u123 u124 u125 u126 u127 u128 u129 u130 u131 u132 u133 u134 u135 u136 u137 u138 u139 u140 u141 u142 u143 u144 u145 u146 u147 u148 u149 u150 u151 u152 u153 u154 u155 u156 u157 u158 u159 u160 u161 u162 u163 u164 : Value) :
    Code.wp Try.prog (rt (rt (rt (rt (rt (Try.f23.body.getD .skip)))))) (bodyPost Try.prog Try.f23 (GoneEnd a b w)) ⟨#[.slice p a.length c, .slice q b.length d, u2, u3, .slice none 0 0, u5, .slice qx nx cx, .slice qy ny cy, u8, u9, u10, u11, u12, u13, u14, u15, u16, u17, u18, u19, u20, u21, u22, u23, u24, u25, u26, u27, u28, u29, u30, u31, u32, u33, u34, u35, u36, u37, u38, u39, u40, u41, u42, u43, u44, u45, u46, u47, u48, u49, u50, u51, u52, u53, u54, u55, u56, u57, u58, u59, u60, u61, u62, u63, u64, u65, u66, u67, u68, u69, u70, u71, u72, u73, u74, u75, u76, u77, u78, u79, u80, u81, u82, u83, u84, u85, u86, u87, u88, u89, u90, u91, u92, u93, u94, u95, u96, u97, u98, u99, u100, u101, u102, u103, u104, u105, u106, u107, u108, u109, u110, u111, u112, u113, u114, u115, u116, u117, u118, u119, u120, u121, u122, u123, u124, u125, u126, u127, u128, u129, u130, u131, u132, u133, u134, u135, u136, u137, u138, u139, u140, u141, u142, u143, u144, u145, u146, u147, u148, u149, u150, u151, u152, u153, u154, u155, u156, u157, u158, u159, u160, u161, u162, u163, u164], []⟩ W := by
  have hmax : maxLen = 9223372036854775807 := rfl
  conv => arg 2; whnf
  conv => arg 4; zeta
  obtain ⟨l5, l6, k1, k2⟩ := chk_zero h0
  have hny : ny ≤ 16807 := by
    have := vy_len h0
    rw [← hyl, List.length_map, hyn] at this
    exact this
  have H0 := hid h0; have HA := hid hA; have HB := hid hB; have HX := hid hX; have HXL := hid hxl; have HXN := hid hxn; have HY := hid hY; have HYL := hid hyl; have HYN := hid hyn; have HLW := hid hlow
  have HCA := hid (coe_of k1); have HCB := hid (coe_of k2)
  clear h0 hA hB hX hxl hxn hY hyl hyn hlow k1 k2
  go_upto_block 0 with fail
  go_cut [8] (fun bv wc => ∃ Ts, ByAt wc W.heap.size bv Ts ∧ TabAt b (vy a b) ny Ts ∧ Below W.heap.size W wc)
  case first =>
    go_wp2_with fail
    go_loopw [8, 9] (fun bv iv wr => ∃ (i : Nat) (Ts : List (Value × List Vc)), i ≤ ny ∧ iv = .int .i64 i ∧ ByAt wr W.heap.size bv Ts ∧ TabAt b (vy a b) i Ts ∧ Below W.heap.size W wr) (fun _ iv _ => ny - (intOf iv).toNat)
    case atStart => exact ⟨0, [], Nat.zero_le _, rfl, ByAt.nil _ _, tab_none _ _, Below.refl _ _⟩
    case round =>
      obtain ⟨i, Ts, hi, rfl, hBy, hTab, hbe⟩ := hrel
      rename World => wr
      by_cases hil : i < ny
      · have hiv : i < ys.length := by rw [HYN.out]; exact hil
        have hiV : i < (vy a b).length := by rw [← HYL.out, List.length_map]; exact hiv
        have hgy : ys[i].l = (vy a b)[i] := by
          have h1 : (ys.map Vc.l)[i]'(by rw [List.length_map]; exact hiv) = (vy a b)[i] := by simp only [HYL.out]
          rw [List.getElem_map] at h1
          exact h1
        have hmy := (vecs_mem _ _ _).1 (List.getElem_mem hiV)
        rw [← hgy] at hmy
        obtain ⟨gy, hgy0⟩ : ∃ gy, qy = some ⟨gy, 0, none⟩ := by obtain ⟨g, h, _⟩ := HY.out.cell i hiv; exact ⟨g, h⟩
        subst hgy0
        have hcy : ∀ W', Below W.heap.size W W' → W'.cell? ⟨gy, i, none⟩ = some (vcV ys[i]) ∧ VcAt W' ys[i] := fun W' hb => by
          obtain ⟨g', e, _, _, _, h⟩ := (HY.out.below hb).cell i hiv
          injection e with e
          injection e with e _ _
          rw [← e] at h
          exact ⟨h, (HY.out.below hb).vec _ (List.getElem_mem hiv)⟩
        obtain ⟨⟨yb, yc, yl⟩, hy⟩ : ∃ y, ys[i] = y := ⟨_, rfl⟩
        rw [hy] at hmy hcy hgy
        have hyl2 : yl.length = b.length := hmy.1
        have hys : yl.sum ≤ 6 := by have h1 : yl.sum ≤ (grt a).toNat := hmy.2; have := grt_six HCA.out; omega
        obtain ⟨m, hm, hm36⟩ := prod_small HCB.out hys
        have hgy2 : yl = (vy a b)[i] := hgy
        have hpm : prodI b (toI (vy a b)[i]) = (m : Int) := by rw [← hgy2]; exact hm
        have hcy' : ∀ W', Below W.heap.size W W' → W'.cell? ⟨gy, i, none⟩ = some (.slice (some ⟨yb, 0, none⟩) yl.length yc) ∧ VcAt W' ⟨yb, yc, yl⟩ := hcy
        have hTM := times_any q d b (some ⟨yb, 0, none⟩) yc (toI yl) wr (HB.out.below hbe) ((hcy' wr hbe).2.ints0 (show yl.length ≤ maxLen by omega)) HCB.out (toI_small hys (by omega)) l6 (by rw [toI_len]; omega)
        rw [hm, toI_len] at hTM
        have HTM := hid hTM; have HCY := hid hcy'; have HPM := hid hpm; have HBY := hid hBy; have HTB := hid hTab; have HBE := hid hbe; have HG2 := hid hgy2; have HIV : Hid (i < (vy a b).length) := hid hiV
        have c1 := (hcy' wr hbe).1
        clear hgy hmy hcy hy hyl2 hys hm hgy2 hpm hcy' hTM hBy hTab hbe hiv
        go_wp2_with fail
        refine HTM.out.mono ?_
        rintro e wr2 ⟨rfl, nw, hwr2⟩
        have HBE2 : Hid (Below W.heap.size W wr2) := hid (by rw [hwr2]; exact below_drewN HBE.out nw)
        have HBY2 : Hid (ByAt wr2 W.heap.size _ Ts) := hid (HBY.out.below (by rw [hwr2]; exact below_drewN (Below.refl _ _) nw))
        clear HTM c1 hwr2 HBE HBY
        go_upto_block 2 with fail
        go_cut [8] (fun bv wc => ∃ Ts2, m < Ts2.length ∧ ByAt wc W.heap.size bv Ts2 ∧ TabAt b (vy a b) i Ts2 ∧ Below W.heap.size W wc)
        case first =>
          go_wp2_with fail
          go_loopw [8] (fun bv wx => ∃ Ts2, ByAt wx W.heap.size bv Ts2 ∧ TabAt b (vy a b) i Ts2 ∧ Below W.heap.size W wx) (fun bv _ => m + 1 - lenV bv)
          case atStart => exact ⟨Ts, HBY2.out, HTB.out, HBE2.out⟩
          case round =>
            obtain ⟨Ts2, hBy, hTab, hbe⟩ := hrel
            rename World => wx
            obtain ⟨qb, cb, hqb⟩ := hBy.form
            subst hqb
            obtain ⟨L2, hL2⟩ : ∃ z, Ts2.length = z := ⟨_, rfl⟩
            by_cases hlm : L2 ≤ m
            · obtain ⟨bv', wD, r1, hB2, hbD⟩ := hBy.grow hbe.size (by have := hTab.le; omega)
              rw [hL2] at r1
              have HF : Hid (∃ Ts3, ByAt wD W.heap.size bv' Ts3 ∧ TabAt b (vy a b) i Ts3 ∧ Below W.heap.size W wD) := hid ⟨_, hB2, hTab.grow (by omega), hbe.trans hbD⟩
              obtain ⟨q3, c3, h3⟩ := hB2.form
              have R1 := hid r1
              have h3' : bv' = .slice q3 (L2 + 1) c3 := by rw [h3, List.length_append, List.length_singleton, hL2]
              subst h3'
              rw [hL2]
              clear hBy hTab hbe hB2 hbD r1 hL2 h3
              go_wp2_with (first
                | (at_builtin; refine Lib.wpList_append_run _ rfl _ _ _ _ rfl _ _ rfl rfl _ _ R1.out ?_; clear R1)
                | fail)
              go_roundw
              case rel => exact HF.out
              case measure => simp [lenV]; omega
            · have HF : Hid (∃ Ts2, m < Ts2.length ∧ ByAt wx W.heap.size (.slice qb L2 cb) Ts2 ∧ TabAt b (vy a b) i Ts2 ∧ Below W.heap.size W wx) := hid ⟨Ts2, by omega, by rw [← hL2]; exact hBy, hTab, hbe⟩
              rw [hL2]
              clear hBy hTab hbe hL2
              go_wp2_with fail
              go_meet
              exact HF.out
        case rest =>
        obtain ⟨Ts2, hmT, hBy, hTab, hbe⟩ := hcut
        rename World => wx
        obtain ⟨qb, cb, hqb⟩ := hBy.form
        obtain ⟨L2, hL2⟩ : ∃ z, Ts2.length = z := ⟨_, rfl⟩
        rw [hL2] at hqb
        subst hqb
        obtain ⟨gb, hgb0⟩ : ∃ gb, qb = some ⟨gb, 0, none⟩ := by obtain ⟨g, h, _⟩ := hBy.cell m hmT; exact ⟨g, h⟩
        subst hgb0
        have hcell := fun W' (hb : Below wx.heap.size wx W') => (hBy.below hb).cell m hmT
        have hcb : ∀ W', Below wx.heap.size wx W' → W'.cell? ⟨gb, m, none⟩ = some Ts2[m].1 := fun W' hb => by
          obtain ⟨g', e, _, h, _⟩ := hcell W' hb
          injection e with e
          injection e with e _ _
          rw [← e] at h
          exact h
        have hlen : Ts2[m].2.length + 1 ≤ 1000000 := by
          have h1 := congrArg List.length (hTab.tt m hmT)
          rw [List.length_map] at h1
          have h2 : (fitB b ((vy a b).take i) (m : Int)).length ≤ ((vy a b).take i).length := List.length_filter_le _ _
          rw [List.length_take] at h2
          omega
        obtain ⟨r', wD, r1, ⟨u0, hu0⟩, hfz, hbD, hB2, hbF⟩ := hBy.put hL2 hbe.size m hmT ⟨yb, yc, yl⟩ (HCY.out wx hbe).2 hlen
        obtain ⟨q3, c3, hr3⟩ : ∃ q3 c3, r' = .slice q3 (Ts2[m].2.length + 1) c3 := by
          have hme : (r', Ts2[m].2 ++ [(⟨yb, yc, yl⟩ : Vc)]) ∈ Ts2.set m (r', Ts2[m].2 ++ [(⟨yb, yc, yl⟩ : Vc)]) := by
            have h1 : m < (Ts2.set m (r', Ts2[m].2 ++ [(⟨yb, yc, yl⟩ : Vc)])).length := by rw [List.length_set]; exact hmT
            have h2 := List.getElem_mem h1
            rw [List.getElem_set_self] at h2
            exact h2
          obtain ⟨q3, c3, h⟩ := (hB2.each _ hme).form
          refine ⟨q3, c3, Eq.trans h ?_⟩
          simp
        subst hr3
        have hT2 := hTab.put HIV.out m hmT HPM.out (.slice q3 (Ts2[m].2.length + 1) c3) ⟨yb, yc, yl⟩ HG2.out
        have HF : Hid (∃ Ts3, ByAt (wD.setCell ⟨gb, m, none⟩ (.slice q3 (Ts2[m].2.length + 1) c3)) W.heap.size (.slice (some ⟨gb, 0, none⟩) L2 cb) Ts3 ∧ TabAt b (vy a b) (i + 1) Ts3 ∧ Below W.heap.size W (wD.setCell ⟨gb, m, none⟩ (.slice q3 (Ts2[m].2.length + 1) c3))) := hid ⟨_, hB2, hT2, hbe.trans hbF⟩
        have hbA := (alloc_below0 wx (.cells #[.slice (some ⟨yb, 0, none⟩) yl.length yc] 27)).drew
        have d1 : wx.drew.cell? ⟨gb, m, none⟩ = some Ts2[m].1 := hcb wx.drew (Below.refl _ wx).drew
        have d2 : (wx.alloc (.cells #[.slice (some ⟨yb, 0, none⟩) yl.length yc] 27)).drew.cell? ⟨gb, m, none⟩ = some Ts2[m].1 := hcb _ hbA
        have d3 : wx.drew.cell? ⟨gy, i, none⟩ = some (.slice (some ⟨yb, 0, none⟩) yl.length yc) := (HCY.out wx.drew hbe.drew).1
        have r1' : (Builtin.append_ #[23, 23] 23 #[Ts2[m].1, .slice (some ⟨wx.heap.size, 0, none⟩) 1 1]).run Try.prog (wx.alloc (.cells #[.slice (some ⟨yb, 0, none⟩) yl.length yc] 27)).drew = .ok (.slice q3 (Ts2[m].2.length + 1) c3) wD := r1
        generalize Ts2[m].2.length + 1 = l3 at r1' HF
        generalize Ts2[m].1 = rr at d1 d2 r1'
        have hmL : m < L2 := by omega
        clear hcell hcb hlen hBy hTab hbe r1 hbD hB2 hbF hT2 hbA hL2 hmT HTB HBE2 HBY2 HCY
        go_wp2_with fail
        go_region_law (refine step_append_run (by rfl) (.tmp 60) (.tmp 65) 23 (by rfl) _ _ (by rfl) (by rfl) _ _ r1' ?_)
        all_goals
          go_wp2_with fail
          go_roundw
          case rel =>
            obtain ⟨Ts3, q1, q2, q3⟩ := HF.out
            exact ⟨i + 1, Ts3, by omega, by go_num, q1, q2, q3⟩
          case measure => simp [intOf]; omega
      · have hin : i = ny := by omega
        have HF : Hid (∃ Ts, ByAt wr W.heap.size _ Ts ∧ TabAt b (vy a b) ny Ts ∧ Below W.heap.size W wr) := hid ⟨Ts, hBy, by rw [← hin]; exact hTab, hbe⟩
        clear hBy hTab hbe
        go_wp2_with fail
        go_meet
        exact HF.out
  case rest =>
  obtain ⟨Ts, hBy, hTab, hbe⟩ := hcut
  obtain ⟨qb, cb, hqb⟩ := hBy.form
  obtain ⟨L, hL⟩ : ∃ z, Ts.length = z := ⟨_, rfl⟩
  rw [hL] at hqb
  subst hqb
  have htk : (vy a b).take ny = vy a b := List.take_of_length_le (by rw [← HYL.out, List.length_map, HYN.out]; exact Nat.le_refl _)
  have hKn : Kn a b p q _ qx nx cx xs (qb) L cb Ts := ⟨H0.out, HA.out.below hbe, HB.out.below hbe, HX.out.below hbe, HXL.out, HXN.out, ⟨own_mono hBy.row (Nat.zero_le _), fun t ht => (hBy.each t ht).mono (Nat.zero_le _), hBy.once⟩, hL, fun m hm => by rw [hTab.tt m hm, htk], fun y hy => by have := hTab.ty y (by rw [htk]; exact hy); rw [hL] at this; exact this⟩
  rename ∀ (a : Act) (w : World), Code.wp Try.prog _ _ a w → _ => hK
  refine hK _ _ ?_
  exact rall_tail3 p c a q d b w _ qx nx cx xs qb L cb Ts hKn (HLW.out.trans (hbe.mono HLW.out.size)) _ _ _ _ _ _ _ _ _ _ _ _ _ _ _ _ _ _ _ _ _ _ _ _ _ _ _ _ _ _ _ _ _ _ _ _ _ _ _ _ _ _ _ _ _ _ _ _ _ _ _ _ _ _ _ _ _ _ _ _ _ _ _ _ _ _ _ _ _ _ _ _ _ _ _ _ _ _ _ _ _ _ _ _ _ _ _ _ _ _ _ _ _ _ _ _ _ _ _ _ _ _ _ _ _ _ _ _ _ _ _ _ _ _ _ _ _ _ _ _ _ _ _ _ _ _ _ _ _ _ _ _ _ _ _ _ _ _ _ _ _ _ _ _ _ _ _ _ _ _ _ _ _ _ _ _ _ _ _ _
set_option maxRecDepth 1000000 in
set_option maxHeartbeats 8000000 in
/-- The document's All. -/
theorem rall_any (p : Option Addr) (c : Nat) (a : List Int) (q : Option Addr) (d : Nat) (b : List Int) (w : World) (hA : IntsAt w p a) (hB : IntsAt w q b) :
    Calls Try.prog 23 #[.slice p a.length c, .slice q b.length d] w (GoneEnd a b w) := by
  have hmax : maxLen = 9223372036854775807 := rfl
  have hsa := hA.small; have hsb := hB.small
  have HRC := hid (rcheck_any p c a q d b w hA hB)
  by_cases h0 : chkE a b = 0
  · obtain ⟨l5, l6, k1, k2⟩ := chk_zero h0
    have g1 := grt_six (coe_of k1); have g2 := grt_six (coe_of k2)
    have n1 := grt_nonneg a; have n2 := grt_nonneg b
    obtain ⟨ga, hga⟩ : ∃ z : Nat, grt a = (z : Int) := ⟨(grt a).toNat, by omega⟩
    obtain ⟨gb, hgb⟩ : ∃ z : Nat, grt b = (z : Int) := ⟨(grt b).toNat, by omega⟩
    have HG1 := hid (rgreatest_any q d b w hB)
    have HG2 := hid (fun W (hb : Below w.heap.size w W) => rgreatest_any p c a W (hA.below hb))
    rw [hgb] at HG1
    rw [hga] at HG2
    have HV1 := hid (vectors_any a.length gb l5 (by omega) w)
    have HV2 := hid (fun W => vectors_any b.length ga l6 (by omega) W)
    rw [h0] at HRC
    have H0 := hid h0; have HA := hid hA; have HB := hid hB
    have HGA : Hid ((grt a).toNat = ga) := hid (by omega)
    have HGB : Hid ((grt b).toNat = gb) := hid (by omega)
    clear h0 k1 k2 g1 g2 n1 n2 hga hgb hA hB
    go_enter Try.func23, Try.ntmps23
    go_wp2_with fail
    refine HRC.out.mono ?_
    rintro e w1 ⟨rfl, hw1⟩
    subst hw1
    rename World => w
    go_wp2_with fail
    refine HG1.out.mono ?_
    rintro e w1 ⟨rfl, hw1⟩
    subst hw1
    rename World => w
    go_wp2_with fail
    refine HV1.out.mono ?_
    rintro e w1 ⟨hb1, v1, xs, rfl, hX, hxl, _⟩
    have HB1 := hid hb1
    obtain ⟨qx, cx, hqx⟩ := hX.form
    subst hqx
    have HX := hid hX; have HXL := hid hxl
    clear hb1 hX hxl HV1 HG1 HRC
    obtain ⟨nx, hnx⟩ : ∃ z, xs.length = z := ⟨_, rfl⟩
    rw [hnx] at HX ⊢
    have HNX := hid hnx
    clear hnx
    go_upto_region 5 with fail
    go_cut [7] (fun v wc => ∃ qy cy ys, v = .slice qy ys.length cy ∧ XRow wc 0 (.slice qy ys.length cy) ys ∧ ys.map Vc.l = vy a b ∧ Below w1.heap.size w1 wc)
    case first =>
      go_wp2_with fail
      refine (HG2.out _ HB1.out).mono ?_
      rintro e w2 ⟨rfl, hw2⟩
      subst hw2
      rename World => w1
      go_wp2_with fail
      refine (HV2.out _).mono ?_
      rintro e w2 ⟨hb2, v2, ys, rfl, hY, hyl, _⟩
      obtain ⟨qy, cy, hqy⟩ := hY.form
      subst hqy
      have HE : Hid (XRow w2 0 (.slice qy ys.length cy) ys ∧ ys.map Vc.l = vy a b ∧ Below w1.heap.size w1 w2) := hid ⟨hY.mono (Nat.zero_le _), by rw [hyl]; unfold vy; rw [HGA.out], hb2⟩
      clear hb2 hY hyl HV2 HG2
      go_wp2_with fail
      go_meet
      exact ⟨qy, cy, ys, rfl, HE.out⟩
    case rest =>
      obtain ⟨qy, cy, ys, rfl, hY, hyl, hb2⟩ := hcut
      rename World => w2
      have hlow : Below w.heap.size w w2 := HB1.out.trans (hb2.mono HB1.out.size)
      rename ∀ (a : Act) (w : World), Code.wp Try.prog _ _ a w → _ => hK
      refine hK _ _ ?_
      exact rall_tail2 p c a q d b w w2 qx nx cx xs qy ys.length cy ys H0.out (HA.out.below hlow) (HB.out.below hlow) ((HX.out.below hb2).mono (Nat.zero_le _)) (by rw [HXL.out]; unfold vx; rw [HGB.out]) HNX.out hY hyl rfl hlow _ _ _ _ _ _ _ _ _ _ _ _ _ _ _ _ _ _ _ _ _ _ _ _ _ _ _ _ _ _ _ _ _ _ _ _ _ _ _ _ _ _ _ _ _ _ _ _ _ _ _ _ _ _ _ _ _ _ _ _ _ _ _ _ _ _ _ _ _ _ _ _ _ _ _ _ _ _ _ _ _ _ _ _ _ _ _ _ _ _ _ _ _ _ _ _ _ _ _ _ _ _ _ _ _ _ _ _ _ _ _ _ _ _ _ _ _ _ _ _ _ _ _ _ _ _ _ _ _ _ _ _ _ _ _ _ _ _ _ _ _ _ _ _ _ _ _ _ _ _ _ _ _ _ _ _ _ _ _ _
  · obtain ⟨z, hz⟩ : ∃ z, chkE a b = z := ⟨_, rfl⟩
    have hz0 : (z != 0) = true := by rw [hz] at h0; simpa using h0
    rw [hz] at HRC
    have HE : Hid (GoneEnd a b w (.returned (.slice none 0 0)) w) := hid ⟨Below.refl _ _, .inl ⟨h0, rfl⟩⟩
    clear h0 hz hA hB
    go_enter Try.func23, Try.ntmps23
    go_wp2_with fail
    refine HRC.out.mono ?_
    rintro e w1 ⟨rfl, hw1⟩
    subst hw1
    go_wp2_with fail
    go_ret
    exact HE.out
end Go.Proofs.Ytbdkogccjnmfoaa
