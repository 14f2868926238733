/- LinsolveSides: the walk. -/
import Derived.Test.YtbdkogccjnmfoabLjM
import Derived.Test.YtbdkogccjnmfoabLjC
import Derived.Test.YtbdkogccjnmfoabLiR
import Derived.Test.YtbdkogccjnmfoabLiU
import Derived.Test.YtbdkogccjnmfoabLiY
import Derived.Deep.RegionHeld3
namespace Go.Proofs.Ytbdkogccjnmfoab
open Go.RowKit Go.Shelf

/-- At a step of a statement that draws its order. -/
theorem step_append_run {P : Program} {ops : Array Oper} {o : Oper} {a : Act} {w : World} {K : Act → World → Prop} {Q : Exit → Act → World → Prop} {E : Prop} (hgd : o.guard = none) (s x : Operand) (t : TypeId)
    (ho : o.op = .call { callee := .builtin .append, args := #[s, x], argTypes := #[t, t] }) (vs vx : Value) (hs : a.eval s = vs) (hx : a.eval x = vx)
    (v' : Value) (w' : World) (hr : (Builtin.append_ #[t, t] o.type #[vs, vx]).run P w = .ok v' w') (h : K (a.put o.dst v') w') :
    if Region.wanted o (yielded ops a.tmps) = true then Oper.wp P o a w K Q else E := by
  have hw : Region.wanted o (yielded ops a.tmps) = true := by simp [Region.wanted, hgd]
  rw [if_pos hw]
  exact Lib.wp_append_run w s x t t ho vs vx hs hx v' w' hr h
theorem toI_sw (q : Nat) (l : List Nat) : toI (sw q l) = (toI l).drop q ++ (toI l).take q := by
  unfold toI sw
  simp
theorem VcAt.cell {w : World} {v : Vc} (h : VcAt w v) (i : Nat) (hi : i < v.l.length) : w.cell? ⟨v.b, i, none⟩ = some (.int .i64 ((v.l[i] : Nat) : Int)) := by
  obtain ⟨b, o, h1, _, h2⟩ := h.ints.cells i (by rw [toI_len]; exact hi)
  cases h1
  rw [Nat.zero_add] at h2
  rw [h2]
  simp [toI]
theorem slice_from (b n c k : Nat) (hk : k ≤ n) (hn : n ≤ c) (hc : c ≠ k) (w : World) : (Instr.sliceAt 22 (.slice (some ⟨b, 0, none⟩) n c) (some (.int .i64 (k : Int))) none none).run Try.prog w = .ok (.slice (some ⟨b, k, none⟩) (n - k) (c - k)) w := by
  have e1 : Try.prog.elem 22 = 3 := by kernel_rfl
  have hs : (sizeOf 3).run Try.prog w = .ok 1 w := Try.sizeOf3 w
  rw [run_sliceAt_slice w 22 _ _ _ _ (by rw [e1]; exact Try.underlying22)]
  have h0 : (0 : Int) ≤ (k : Int) := by omega
  have h1 : (k : Int) ≤ (n : Int) := by omega
  have h2 : (n : Int) ≤ (c : Int) := by omega
  go_simp
theorem slice_to (b n c k : Nat) (hk : k ≤ n) (hn : n ≤ c) (w : World) : (Instr.sliceAt 22 (.slice (some ⟨b, 0, none⟩) n c) none (some (.int .i64 (k : Int))) none).run Try.prog w = .ok (.slice (some ⟨b, 0, none⟩) k c) w := by
  have e1 : Try.prog.elem 22 = 3 := by kernel_rfl
  have hs : (sizeOf 3).run Try.prog w = .ok 1 w := Try.sizeOf3 w
  rw [run_sliceAt_slice w 22 _ _ _ _ (by rw [e1]; exact Try.underlying22)]
  have h0 : (0 : Int) ≤ (k : Int) := by omega
  have h1 : (k : Int) ≤ (c : Int) := by omega
  go_simp
/-- Numbers within a vector. -/
theorem sub_src {w : World} {v : Vc} (h : VcAt w v) (k m : Nat) (hkm : k + m ≤ v.l.length) : ∀ (news : List Int), news = ((toI v.l).drop k).take m → (cAll news).length = m * 1 ∧ ∀ j u, (cAll news)[j]? = some u → w.cell? ((⟨v.b, k, none⟩ : Addr).add j) = some u := by
  intro news hn
  have hl : news.length = m := by rw [hn]; simp [toI_len]; omega
  refine ⟨by rw [cAll_len, hl, Nat.mul_one], fun j u hj => ?_⟩
  have hjl : j < m := by have := (List.getElem?_eq_some_iff.1 hj).1; rw [cAll_len, hl] at this; exact this
  rw [Addr.add_lit, h.cell (k + j) (by omega)]
  unfold cAll at hj
  rw [List.getElem?_map, hn, List.getElem?_take_of_lt hjl, List.getElem?_drop] at hj
  unfold toI at hj
  rw [List.getElem?_map, List.getElem?_eq_getElem (by omega)] at hj
  simpa using hj
set_option maxRecDepth 100000 in
set_option maxHeartbeats 8000000 in
theorem linsolveSides_walk (p : Option Addr) (c : Nat) (a : List Int) (q : Option Addr) (d : Nat) (b : List Int) (w : World) (hA : IntsAt w p a) (hB : IntsAt w q b) (_ : p = none → c = 0) (_ : a.length ≤ 17592186043904) (_ : ∀ x ∈ a, Is64 x) (_ : q = none → d = 0) (_ : b.length ≤ 17592186043904) (_ : ∀ x ∈ b, Is64 x) :
    Calls Try.prog 4 #[.slice p a.length c, .slice q b.length d] w fun e w' => e = .returned (.bool true) ∧ Below w.heap.size w w' := by
  have hmax : maxLen = 9223372036854775807 := rfl
  have hsa := hA.small; have hsb := hB.small
  have HA := hid hA; have HB := hid hB
  clear hA hB
  go_enter Try.func4, Try.ntmps4
  go_wp2_with fail
  refine (lives_any w).mono ?_
  rintro e w1 ⟨rfl, hb1⟩
  have HB1 := hid hb1
  have HG1 := hid (gone_any p c a q d b w1 (HA.out.below hb1) (HB.out.below hb1))
  clear hb1
  go_wp2_with fail
  refine HG1.out.mono ?_
  rintro e w2 ⟨hb2, hcase⟩
  have HB2 : Hid (Below w.heap.size w w2) := hid (HB1.out.trans (hb2.mono HB1.out.size))
  have HG2 := hid (gone_any q d b p c a w2 (HB.out.below HB2.out) (HA.out.below HB2.out))
  clear hb2 HG1
  rcases hcase with ⟨h0, rfl⟩ | ⟨h0, vl, vs, rfl, hmin, hX, _⟩
  · have H0 := hid h0
    clear h0
    go_wp2_with fail
    refine HG2.out.mono ?_
    rintro e w3 ⟨hb3, (⟨_, rfl⟩ | ⟨h, _⟩)⟩
    rotate_left
    · rw [chk_swap] at h; exact absurd h H0.out
    have HB3 : Hid (Below w.heap.size w w3) := hid (HB2.out.trans (hb3.mono HB2.out.size))
    have HRC := hid (rcheck_any p c a q d b w3 (HA.out.below HB3.out) (HB.out.below HB3.out))
    obtain ⟨z, hz⟩ : ∃ z, chkE a b = z := ⟨_, rfl⟩
    have hz0 : (z == 0) = false := by have := H0.out; rw [hz] at this; simpa using this
    rw [hz] at HRC
    clear hb3 HG2 hz
    go_wp2_with fail
    go_loopw [8] (fun iv wr => iv = .int .i64 0 ∧ wr = w3) (fun _ _ => 0)
    case atStart => exact ⟨rfl, rfl⟩
    case round =>
      obtain ⟨rfl, rfl⟩ := hrel
      by_cases ha1 : a.length = 1
      · have e1 : ((a.length : Int) == 1) = true := by simp; omega
        by_cases hb1 : b.length = 1
        · have e2 : ((b.length : Int) == 1) = true := by simp; omega
          clear ha1 hb1
          go_wp2_with fail
          refine HRC.out.mono ?_
          rintro e w4 ⟨rfl, hw4⟩
          subst hw4
          go_wp2_with fail
          go_big_quiet (fail)
          go_wp2_with fail
          go_ret
          exact ⟨rfl, below_drewN HB3.out _⟩
        · have e2 : ((b.length : Int) == 1) = false := by simp; omega
          clear ha1 hb1
          go_wp2_with fail
          go_big_quiet (fail)
          go_wp2_with fail
          go_ret
          exact ⟨rfl, below_drewN HB3.out _⟩
      · have e1 : ((a.length : Int) == 1) = false := by simp; omega
        clear ha1
        go_wp2_with fail
        go_big_quiet (fail)
        go_wp2_with fail
        go_ret
        exact ⟨rfl, below_drewN HB3.out _⟩
  · obtain ⟨l5, l6, _, _⟩ := chk_zero h0
    have H0 := hid h0; have HMN := hid hmin
    obtain ⟨ql, cl, hvl⟩ := hX.form
    obtain ⟨n, hn⟩ : ∃ n, vs.length = n := ⟨_, rfl⟩
    rw [hn] at hvl
    subst hvl
    have HX := hid hX; have HN := hid hn
    clear h0 hmin hX hn
    go_wp2_with fail
    refine HG2.out.mono ?_
    rintro e w3 ⟨hb3, (⟨h, _⟩ | ⟨h, vm, us, rfl, hmin2, hX2, _⟩)⟩
    · rw [chk_swap] at h; exact absurd H0.out h
    have hul : us.length = n := by
      have := swap_len H0.out HMN.out hmin2
      rw [List.length_map, List.length_map, HN.out] at this
      exact this.symm
    obtain ⟨qm, cm, hvm⟩ := hX2.form
    rw [hul] at hvm
    subst hvm
    have HB3 : Hid (Below w.heap.size w w3) := hid (HB2.out.trans (hb3.mono HB2.out.size))
    have HX1 := hid (HX.out.below hb3); have HX2 := hid hX2; have HUL := hid hul; have HMN2 := hid hmin2
    have hnb : n ≤ 13060694016 := by
      have h1 := HMN.out.perm.length_eq
      rw [List.length_map, HN.out] at h1
      have h2 := Nat.le_trans (res_len (pbOf a b) 13 root) (siz_pow (p := pbOf a b) l5 l6 13 root)
      simp only [Nat.reducePow] at h2
      omega
    have hnn : ((n : Int) != (n : Int)) = false := by simp
    have hsum : IntKind.i64.wrap ((a.length : Int) + (b.length : Int)) = (a.length : Int) + (b.length : Int) := IntWalk.i64_in _ (by constructor <;> omega)
    clear hb3 hX2 hul hmin2 h HX HG2
    go_wp2_with fail
    go_loopw [8] (fun iv wr => ∃ j : Nat, j ≤ n ∧ iv = .int .i64 j ∧ Below w3.heap.size w3 wr) (fun iv _ => n - (intOf iv).toNat)
    case atStart => exact ⟨0, Nat.zero_le _, rfl, Below.refl _ _⟩
    case round =>
      obtain ⟨j, hj, rfl, hb⟩ := hrel
      by_cases hlt : j < n
      · have hju : j < us.length := by rw [HUL.out]; exact hlt
        have hXw := HX2.out.below hb
        obtain ⟨gm, rfl, hgm1, hgm2, _, hcj⟩ := hXw.cell j hju
        have hvx := hXw.vec _ (List.getElem_mem hju)
        have hmem : us[j].l ∈ us.map Vc.l := List.mem_map.2 ⟨_, List.getElem_mem hju, rfl⟩
        have hlen := HMN2.out.len (by rw [chk_swap]; exact H0.out) hmem
        have hin := swap_mem H0.out HMN.out HMN2.out hmem
        obtain ⟨x, hx⟩ : ∃ x, us[j] = x := ⟨_, rfl⟩
        rw [hx] at hcj hvx hlen hin
        obtain ⟨xb, xc, xl⟩ := x
        obtain ⟨cur, _, hxc, _, hxm⟩ := hvx.blk
        have hxc' : xl.length ≤ xc := hxc
        have hxm' : xc ≤ maxLen := hxm
        have hlen' : xl.length = b.length + a.length := hlen
        have hin' : sw b.length xl ∈ vs.map Vc.l := hin
        have hpos : 0 < a.length := by
          have h1 := (HMN.out.mem H0.out _).1 hin'
          obtain ⟨u, v, _, hm⟩ := h1
          have h2 := hm.pos
          rcases Nat.eq_zero_or_pos a.length with h3 | h3
          · have h4 : (pbOf a b).n = 0 := h3
            rw [h4] at h2
            exact absurd h2 (Nat.lt_irrefl 0)
          · exact h3
        -- the two appends
        have bE := alloc_below0 wr (.cells #[] 3)
        have hE : (wr.alloc (.cells #[] 3)).drew.ownsRow wr.heap.size 3 1 (.slice (some ⟨wr.heap.size, 0, none⟩) 0 0) 0 [] := ⟨rfl, .inr ⟨wr.heap.size, 0, #[], rfl, Nat.le_refl _, World.alloc_heap_new wr _, Nat.le_refl _, Nat.zero_le _, rfl, rfl⟩⟩
        have hv1 : VcAt (wr.alloc (.cells #[] 3)).drew ⟨xb, xc, xl⟩ := hvx.same (bE.block xb (by obtain ⟨cu, h1, _⟩ := hvx.blk; exact (Array.getElem?_eq_some_iff.1 h1).1))
        obtain ⟨s1, s2⟩ := sub_src hv1 b.length (xl.length - b.length) (by show _ ≤ xl.length; omega) _ rfl
        obtain ⟨p1, c1, W1, hr1, hA1, hG1⟩ := run_appI 22 wr.heap.size _ 0 [] (wr.alloc (.cells #[] 3)).drew hE (some ⟨xb, b.length, none⟩) (xl.length - b.length) (xc - b.length) _ (.inr ⟨_, rfl, s1, s2⟩) (cAll_one _) (by omega) bE.size
        have hf1 := fr_grown hG1
        rw [Nat.zero_add] at hr1 hA1
        rw [List.nil_append] at hA1
        have hbW1 : Below wr.heap.size wr W1 := bE.drew.trans (hf1.below (n := wr.heap.size) (fun k hk => by have h7 : some wr.heap.size = some k := hk; have := Option.some.inj h7; omega) bE.size)
        have hv2 : VcAt W1 ⟨xb, xc, xl⟩ := hvx.same (hbW1.block xb (by obtain ⟨cu, h1, _⟩ := hvx.blk; exact (Array.getElem?_eq_some_iff.1 h1).1))
        obtain ⟨t1, t2⟩ := sub_src hv2 0 b.length (by show _ ≤ xl.length; omega) _ rfl
        obtain ⟨p2, c2, W2, hr2, hA2, hG2⟩ := run_appI 22 wr.heap.size _ (xl.length - b.length) _ W1 hA1 (some ⟨xb, 0, none⟩) b.length xc _ (.inr ⟨_, rfl, t1, t2⟩) (cAll_one _) (by omega) hbW1.size
        have hf2 := fr_grown hG2
        have hbW2 : Below wr.heap.size wr W2 := hbW1.trans (hf2.below (n := wr.heap.size) (fun k hk => (own_blk hA1 hk).choose_spec.2) hbW1.size)
        have hbk : toI (sw b.length xl) = (((toI xl).drop b.length).take (xl.length - b.length)) ++ (((toI xl).drop 0).take b.length) := by
          rw [toI_sw, List.drop_zero, List.take_of_length_le (l := (toI xl).drop b.length) (by rw [List.length_drop, toI_len]; omega)]
        obtain ⟨bk, hbke⟩ : ∃ bk, toI (sw b.length xl) = bk := ⟨_, rfl⟩
        have hbl : bk.length = xl.length - b.length + b.length := by rw [← hbke, hbk]; simp [toI_len]; omega
        have hCR : CRow W2 wr.heap.size p2 c2 bk := by
          unfold CRow
          rw [hbl, ← hbke, hbk]
          unfold cAll at hA2 ⊢
          rw [List.map_append]
          exact hA2
        rw [show xl.length - b.length + b.length = xl.length by omega] at hr2 hbl
        have cD : wr.drew.cell? ⟨gm, j, none⟩ = some (.slice (some ⟨xb, 0, none⟩) xl.length xc) := hcj
        have cE : (wr.alloc (.cells #[] 3)).drew.cell? ⟨gm, j, none⟩ = some (.slice (some ⟨xb, 0, none⟩) xl.length xc) := below_cell bE.drew _ _ hcj
        have cW1 : W1.cell? ⟨gm, j, none⟩ = some (.slice (some ⟨xb, 0, none⟩) xl.length xc) := below_cell hbW1 _ _ hcj
        have cW2 : W2.cell? ⟨gm, j, none⟩ = some (.slice (some ⟨xb, 0, none⟩) xl.length xc) := below_cell hbW2 _ _ hcj
        have c0 : wr.cell? ⟨gm, j, none⟩ = some (.slice (some ⟨xb, 0, none⟩) xl.length xc) := hcj
        have HCI := hid hCR.ints.at
        have HBX : Hid (Below w3.heap.size w3 W2) := hid (hb.trans (hbW2.mono hb.size))
        have HTR : Hid ((vs.any (fun z => decide (toI z.l = bk))) = true) := hid (by
          obtain ⟨z, hz, hzl⟩ := List.mem_map.1 hin'
          refine List.any_eq_true.2 ⟨z, hz, ?_⟩
          rw [hzl, hbke]
          simp)
        have hne : ((xl.length : Int) != (a.length : Int) + (b.length : Int)) = false := by simp; omega
        have hxq : xc ≠ b.length := by omega
        have hle1 : b.length ≤ xl.length := by omega
        have HLN := hid hlen'; have HBL := hid hbl
        obtain ⟨N, hN⟩ : ∃ N, xl.length = N := ⟨_, rfl⟩
        rw [hN] at cD cE cW1 cW2 c0 hne hle1 hr1 hr2 HBL hxc' hlen'
        clear hb hXw hcj hvx hmem hlen hin hx hxc hxm bE hE hv1 s1 s2 hA1 hG1 hf1 hbW1 hv2 t1 t2 hA2 hG2 hf2 hbW2 hbk hbke hCR hin' hbl hN hlen'
        go_wp2_with fail
        have sA := slice_from xb N xc b.length hle1 hxc' hxq wr.drew
        have sB := slice_from xb N xc b.length hle1 hxc' hxq (wr.alloc (.cells #[] 3)).drew
        have hi0 : (0 : Int) ≤ (b.length : Int) := by omega
        have hi1 : (b.length : Int) ≤ (N : Int) := by omega
        have hi2 : (b.length : Int) ≤ (xc : Int) := by omega
        go_region_held3 (fun w' => w'.cell? ⟨gm, j, none⟩ = some (.slice (some ⟨xb, 0, none⟩) N xc)) ((first | exact cD | exact cE | exact cW1 | exact cW2 | fail)) ((first
          | ((with_reducible refine step_append_run ?_ (.tmp 43) (.tmp 50) 22 ?_ _ _ ?_ ?_ _ _ hr1 ?_); (solve | rfl); (solve | rfl); (solve | rfl); (solve | rfl))
          | ((with_reducible refine step_append_run ?_ (.tmp 51) (.tmp 58) 22 ?_ _ _ ?_ ?_ _ _ hr2 ?_); (solve | rfl); (solve | rfl); (solve | rfl); (solve | rfl))
          | fail))
        clear hr1 hr2 cD cE cW1 cW2 sA sB c0
        go_wp2_with fail
        go_loopw [10, 11] (fun tv kv wx => ∃ k : Nat, k ≤ n ∧ kv = .int .i64 k ∧ tv = .bool ((vs.take k).any (fun z => decide (toI z.l = bk))) ∧ Below w3.heap.size w3 wx ∧ IntsAt wx p2 bk) (fun _ kv _ => n - (intOf kv).toNat)
        case atStart => exact ⟨0, Nat.zero_le _, rfl, rfl, HBX.out, HCI.out⟩
        case round =>
          obtain ⟨k, hk, rfl, rfl, hb, hI⟩ := hrel
          rename World => wx
          by_cases hkl : k < n
          · have hkv : k < vs.length := by rw [HN.out]; exact hkl
            have hXw := HX1.out.below hb
            obtain ⟨gl, rfl, hg1, hg2, _, hck⟩ := hXw.cell k hkv
            have hvz := hXw.vec _ (List.getElem_mem hkv)
            have hany : (vs.take (k + 1)).any (fun z => decide (toI z.l = bk)) = ((vs.take k).any (fun z => decide (toI z.l = bk)) || decide (toI vs[k].l = bk)) := by
              rw [List.take_add_one, List.getElem?_eq_getElem hkv, List.any_append]
              simp
            obtain ⟨z, hz⟩ : ∃ z, vs[k] = z := ⟨_, rfl⟩
            rw [hz] at hck hvz hany
            have HSM := hid (same_any (some ⟨z.b, 0, none⟩) z.c (toI z.l) p2 c2 bk wx hvz.ints.at hI)
            rw [toI_len, HBL.out] at HSM
            obtain ⟨t1, ht1⟩ : ∃ t, (vs.take k).any (fun z => decide (toI z.l = bk)) = t := ⟨_, rfl⟩
            obtain ⟨t2, ht2⟩ : ∃ t, decide (toI z.l = bk) = t := ⟨_, rfl⟩
            rw [ht1, ht2] at hany
            rw [ht2] at HSM
            rw [ht1]
            have HAN := hid hany; have HBB := hid hb; have HII := hid hI
            clear hb hI hXw hvz hany hz ht1 ht2
            go_wp2_with fail
            refine HSM.out.mono ?_
            rintro e w5 ⟨rfl, hb5⟩
            have HB5 : Hid (Below w3.heap.size w3 w5) := hid (HBB.out.trans (hb5.mono HBB.out.size))
            have HI5 := hid (HII.out.below hb5)
            clear hb5
            cases t1
            · go_wp2_with fail
              go_roundw
              case rel => exact ⟨k + 1, by omega, by go_num, by rw [HAN.out]; rfl, HB5.out, HI5.out⟩
              case measure => simp [intOf]; omega
            · go_wp2_with fail
              go_roundw
              case rel => exact ⟨k + 1, by omega, by go_num, by rw [HAN.out]; rfl, HB5.out, HI5.out⟩
              case measure => simp [intOf]; omega
          · have ht : (vs.take k).any (fun z => decide (toI z.l = bk)) = true := by
              rw [List.take_of_length_le (by rw [HN.out]; omega)]; exact HTR.out
            rw [ht]
            have HBB := hid hb
            clear hb hI ht
            go_wp2_with fail
            go_roundw
            case rel => exact ⟨j + 1, by omega, by go_num, HBB.out⟩
            case measure => simp [intOf]; omega
      · have HBW : Hid (Below w.heap.size w wr) := hid (HB3.out.trans (hb.mono HB3.out.size))
        have HRC := hid (rcheck_any p c a q d b wr (HA.out.below HBW.out) (HB.out.below HBW.out))
        rw [H0.out] at HRC
        have HXZ := hid (HX1.out.below hb)
        clear hb
        by_cases ha1 : a.length = 1
        · have e1 : ((a.length : Int) == 1) = true := by simp; omega
          by_cases hb1 : b.length = 1
          · have e2 : ((b.length : Int) == 1) = true := by simp; omega
            obtain ⟨x, y, hL, hxy, hx9, hy9⟩ := one_min H0.out ha1 hb1 HMN.out
            obtain ⟨z, hz⟩ : ∃ z, vs = [z] := by
              have h := congrArg List.length hL
              rw [List.length_map] at h
              exact List.length_eq_one_iff.1 h
            have hn1 : n = 1 := by rw [← HN.out, hz]; rfl
            subst hz
            obtain ⟨zb, zc, zl⟩ := z
            obtain rfl : zl = [x, y] := by simpa using hL
            subst hn1
            obtain ⟨gl, rfl, hg1, hg2, _, hck⟩ := HXZ.out.cell 0 Nat.zero_lt_one
            have hvz := HXZ.out.vec _ List.mem_cons_self
            have k0 : wr.cell? ⟨zb, 0, none⟩ = some (.int .i64 (x : Int)) := hvz.cell 0 (show 0 < 2 by decide)
            have k1 : wr.cell? ⟨zb, 1, none⟩ = some (.int .i64 (y : Int)) := hvz.cell 1 (show 1 < 2 by decide)
            have k2 : wr.cell? ⟨gl, 0, none⟩ = some (.slice (some ⟨zb, 0, none⟩) 2 zc) := hck
            obtain ⟨cu, _, hzc, _, hzm⟩ := hvz.blk
            have hzc' : 2 ≤ zc := hzc
            obtain ⟨ba, oa, rfl, k3⟩ := (HA.out.below HBW.out).cells 0 (by omega)
            obtain ⟨bb, ob, rfl, k4⟩ := (HB.out.below HBW.out).cells 0 (by omega)
            rw [pb_a H0.out 0 (by omega), Nat.add_zero] at k3
            rw [pb_b H0.out 0 (by omega), Nat.add_zero] at k4
            have ok := pb_ok H0.out
            have q1 := ok.a1 0 (show 0 < a.length by omega)
            have q2 := ok.b1 0 (show 0 < b.length by omega)
            obtain ⟨A, hA⟩ : ∃ A, (pbOf a b).a 0 = A := ⟨_, rfl⟩
            obtain ⟨B, hB⟩ : ∃ B, (pbOf a b).b 0 = B := ⟨_, rfl⟩
            rw [hA] at k3 q1 hxy
            rw [hB] at k4 q2 hxy
            have m1 : A * x ≤ 6 * 100 := Nat.mul_le_mul q1.2 hx9
            obtain ⟨M, hM⟩ : ∃ M : Nat, A * x = M := ⟨_, rfl⟩
            have w1' : IntKind.i64.wrap ((A : Int) * (x : Int)) = (M : Int) := by rw [← hM, ← Int.natCast_mul]; exact IntWalk.i64_in _ (by constructor <;> omega)
            have w2' : IntKind.i64.wrap ((B : Int) * (y : Int)) = (M : Int) := by rw [← hM, hxy, ← Int.natCast_mul]; exact IntWalk.i64_in _ (by constructor <;> omega)
            have hMM : ((M : Int) == (M : Int)) = true := by simp
            have hl1 : (1 : Nat) ≤ cl := hg1
            have ca : (0 : Int) < (a.length : Int) := by omega
            have cb : (0 : Int) < (b.length : Int) := by omega
            clear hL hxy hck hvz hzc hg1 hA hB hM m1 ha1 hb1 ok
            go_wp2_with fail
            refine HRC.out.mono ?_
            rintro e w4 ⟨rfl, hw4⟩
            subst hw4
            go_wp2_with fail
            go_big_quiet (fail)
            go_wp2_with fail
            go_ret
            exact ⟨rfl, below_drewN HBW.out _⟩
          · have e2 : ((b.length : Int) == 1) = false := by simp; omega
            clear ha1 hb1
            go_wp2_with fail
            go_big_quiet (fail)
            go_wp2_with fail
            go_ret
            exact ⟨rfl, below_drewN HBW.out _⟩
        · have e1 : ((a.length : Int) == 1) = false := by simp; omega
          clear ha1
          go_wp2_with fail
          go_big_quiet (fail)
          go_wp2_with fail
          go_ret
          exact ⟨rfl, below_drewN HBW.out _⟩
end Go.Proofs.Ytbdkogccjnmfoab
