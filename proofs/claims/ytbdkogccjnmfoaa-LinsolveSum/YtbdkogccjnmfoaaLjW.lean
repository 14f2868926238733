/- LinsolveSum: the walk. -/
import Derived.Test.YtbdkogccjnmfoaaLjV
namespace Go.Proofs.Ytbdkogccjnmfoaa
open Go.RowKit Go.Shelf

set_option maxRecDepth 100000 in
set_option maxHeartbeats 8000000 in
theorem linsolveSum_walk (p : Option Addr) (c : Nat) (a : List Int) (q : Option Addr) (d : Nat) (b : List Int) (x : Option Addr) (f : Nat) (u : List Int) (w : World) (hA : IntsAt w p a) (hB : IntsAt w q b) (hU : IntsAt w x u) (_ : p = none → c = 0) (_ : a.length ≤ 17592186043904) (_ : ∀ x ∈ a, Is64 x) (_ : q = none → d = 0) (_ : b.length ≤ 17592186043904) (_ : ∀ x ∈ b, Is64 x) (_ : x = none → f = 0) (_ : u.length ≤ 17592186043904) (_ : ∀ x ∈ u, Is64 x) :
    Calls Try.prog 8 #[.slice p a.length c, .slice q b.length d, .slice x u.length f] w fun e w' => e = .returned (.bool true) ∧ Below w.heap.size w w' := by
  have hmax : maxLen = 9223372036854775807 := rfl
  have hsa := hA.small; have hsb := hB.small; have hsu := hU.small
  have HA := hid hA; have HB := hid hB; have HU := hid hU
  clear hA hB hU
  go_enter Try.func8, Try.ntmps8
  go_wp2_with fail
  refine (lives_any w).mono ?_
  rintro e w1 ⟨rfl, hb1⟩
  have HB1 := hid hb1
  have HG1 := hid (gone_any p c a q d b w1 (HA.out.below hb1) (HB.out.below hb1))
  clear hb1
  go_wp2_with fail
  refine HG1.out.mono ?_
  rintro e w2 ⟨hb2, hcase⟩
  have HB2 : Hid (Below w.heap.size w w2) := hid (HB1.out.trans (hb2.mono HB1.out.size))
  have HRC := hid (rcheck_any p c a q d b w2 (HA.out.below HB2.out) (HB.out.below HB2.out))
  clear hb2 HG1
  rcases hcase with ⟨h0, rfl⟩ | ⟨h0, vl, vs, rfl, hmin, hX, hge⟩
  · obtain ⟨z, hz⟩ : ∃ z, chkE a b = z := ⟨_, rfl⟩
    have hz0 : (z != 0) = true := by rw [hz] at h0; simpa using h0
    rw [hz] at HRC
    clear h0 hz
    go_wp2_with fail
    refine HRC.out.mono ?_
    rintro e w3 ⟨rfl, hw3⟩
    subst hw3
    go_wp2_with fail
    go_ret
    exact ⟨rfl, HB2.out⟩
  · obtain ⟨l5, l6, k1, k2⟩ := chk_zero h0
    rw [h0] at HRC
    have H0 := hid h0; have HMN := hid hmin; have HK1 := hid (coe_of k1); have HK2 := hid (coe_of k2)
    have HGE := hid hge
    obtain ⟨ql, cl, hvl⟩ := hX.form
    obtain ⟨n, hn⟩ : ∃ n, vs.length = n := ⟨_, rfl⟩
    rw [hn] at hvl
    subst hvl
    have HX := hid hX; have HN := hid hn
    have hnb : n ≤ 13060694016 := by
      have h1 := hmin.perm.length_eq
      rw [List.length_map, hn] at h1
      have h2 := Nat.le_trans (res_len (pbOf a b) 13 root) (siz_pow (p := pbOf a b) l5 l6 13 root)
      simp only [Nat.reducePow] at h2
      omega
    clear h0 hmin hX hn k1 k2 hge
    obtain ⟨N, hNe⟩ : ∃ N, a.length + b.length = N := ⟨_, rfl⟩
    have hN10 : N ≤ 10 := by omega
    have HNE := hid hNe
    have hsum : IntKind.i64.wrap ((a.length : Int) + (b.length : Int)) = (N : Int) := by rw [← hNe, Int.natCast_add]; exact IntWalk.i64_in _ (by constructor <;> omega)
    have HA2 := hid (HA.out.below HB2.out); have HB2' := hid (HB.out.below HB2.out); have HU2 := hid (HU.out.below HB2.out)
    clear hNe
    go_wp2_with fail
    refine HRC.out.mono ?_
    rintro e w3 ⟨rfl, hw3⟩
    subst hw3
    rename World => w2
    have mk0 := make_ints N (by omega) w2
    clear HRC HA HB HU
    have HF0 : Hid (Far a b w2 w2.heap.size 0 (List.replicate N 0) (w2.alloc (.cells (madeCells #[.int .i64 0] N) 3))) := hid ⟨⟨_, by rw [World.alloc_heap_new, made_zero], fun i hi => cAll_get _ i hi⟩, by rw [List.length_replicate, HNE.out], fun y hy => by rw [List.eq_of_mem_replicate hy]; omega, fun k _ => by rw [List.getD_eq_getElem?_getD, List.getElem?_replicate]; split <;> rfl, alloc_below0 w2 _⟩
    have HZ0 : Hid (gapOf a b (List.replicate N 0) = 0) := hid (by
      have e : ∀ (ks : List Int) m, prodI ks (List.replicate m 0) = 0 := by
        intro ks
        induction ks with
        | nil => intro m; exact prodI_nil _
        | cons k ks ih =>
          intro m
          cases m with
          | zero => rfl
          | succ m => rw [List.replicate_succ, prodI, ih]; simp
      unfold gapOf
      rw [e, List.drop_replicate, e]
      rfl)
    go_upto_region 6 with fail
    obtain ⟨g, hg⟩ : ∃ g, w2.heap.size = g := ⟨_, rfl⟩
    have HGG := hid hg
    rw [hg] at HF0 ⊢
    generalize w2.alloc (.cells (madeCells #[.int .i64 0] N) 3) = W0 at HF0 ⊢
    clear mk0 hg
    go_upto_block 0 with fail
    go_cut [10] (fun gv wc => ∃ V, gv = .int .i64 (gapOf a b V) ∧ Far a b w2 g N V wc)
    case first =>
      go_wp2_with fail
      go_loopw [10, 11] (fun gv iv wr => ∃ (j : Nat) (V : List Int), j ≤ N ∧ iv = .int .i64 j ∧ gv = .int .i64 (gapOf a b V) ∧ Far a b w2 g j V wr) (fun _ iv _ => N - (intOf iv).toNat)
      case atStart => exact ⟨0, _, Nat.zero_le _, rfl, by rw [HZ0.out], HF0.out⟩
      case round =>
        obtain ⟨j, V, hj, rfl, rfl, hF⟩ := hrel
        by_cases hlt : j < N
        · by_cases hju : j < u.length
          · have hb := hF.bel
            obtain ⟨bu, ou, rfl, hcu⟩ := (HU2.out.below hb).cells j hju
            have hjV : j < V.length := by rw [hF.len, HNE.out]; exact hlt
            have c9 := hF.bl.cell j hjV
            have f9 := hF.bl.free j
            have hV0 := hF.zero j (Nat.le_refl _)
            obtain ⟨r, hr⟩ : ∃ r, (u[j]).tmod 50 = r := ⟨_, rfl⟩
            have hr1 : r < 50 := by rw [← hr]; exact Int.tmod_lt_of_pos _ (by decide)
            have hr2 : -50 < r := by rw [← hr]; exact Int.lt_tmod_of_pos _ (by decide)
            have e1 : IntKind.i64.wrap ((u[j]).tmod 50) = r := by rw [hr]; exact IntWalk.i64_in _ (by constructor <;> omega)
            obtain ⟨uj, huj⟩ : ∃ z, u[j] = z := ⟨_, rfl⟩
            rw [huj] at hcu hr e1
            obtain ⟨r', hr'⟩ : ∃ r', (if r < 0 then -r else r) = r' := ⟨_, rfl⟩
            have hr0 : 0 ≤ r' ∧ r' ≤ 49 := by rw [← hr']; split <;> omega
            have HFN : Hid (∀ W, Bl W g (V.set j r') → Below w2.heap.size w2 W → Far a b w2 g (j + 1) (V.set j r') W) := hid (fun W h1 h2 => ⟨h1, by rw [List.length_set]; exact hF.len, set_small hF.small j r' hr0, set_zero hF.zero r', h2⟩)
            have HGP : Hid (gapOf a b (V.set j r') = gapOf a b V + (if j < a.length then a.getD j 0 else - b.getD (j - a.length) 0) * r') := hid (by rw [gap_set a b V j r' hjV, hV0, Int.sub_zero])
            have hg1 := gap_bound HK1.out HK2.out l5 l6 hF.small
            have hg2 := gap_bound HK1.out HK2.out l5 l6 (set_small hF.small j r' hr0)
            have HS1 : Hid (Bl (World.setCell _ ⟨g, j, none⟩ (.int .i64 r)) g (V.set j r)) := hid (hF.bl.set j r)
            have HS2 : Hid (Below w2.heap.size w2 (World.setCell _ ⟨g, j, none⟩ (.int .i64 r))) := hid (hb.setCell (p := ⟨g, j, none⟩) (by rw [← HGG.out]; exact Nat.le_refl _) _)
            have HLV : Hid (j < V.length) := hid hjV
            generalize V[j] = old9 at c9
            obtain ⟨gp, hgp⟩ : ∃ z, gapOf a b V = z := ⟨_, rfl⟩
            rw [hgp] at HGP hg1 ⊢
            clear hb hF hV0 huj hgp hjV
            go_upto_region 11 with fail
            clear c9 f9 hcu e1 hr
            generalize World.setCell _ ⟨g, j, none⟩ (.int .i64 r) = W3 at HS1 HS2 ⊢
            have c10 : W3.cell? ⟨g, j, none⟩ = some (.int .i64 r) := by
              have := HS1.out.cell j (by rw [List.length_set]; exact HLV.out)
              rwa [List.getElem_set_self] at this
            have f10 := HS1.out.free j
            go_upto_if 69 with fail
            go_cut [11] (fun iv wc => iv = .int .i64 j ∧ Bl wc g (V.set j r') ∧ Below w2.heap.size w2 wc)
            case first =>
              by_cases hneg : r < 0
              · have e2 : IntKind.i64.wrap (-r) = r' := by rw [← hr', if_pos hneg]; exact IntWalk.i64_in _ (by constructor <;> omega)
                have HS3 : Hid (Bl (W3.setCell ⟨g, j, none⟩ (.int .i64 r')) g (V.set j r') ∧ Below w2.heap.size w2 (W3.setCell ⟨g, j, none⟩ (.int .i64 r'))) := hid ⟨by have := HS1.out.set j r'; rwa [List.set_set] at this, HS2.out.setCell (p := ⟨g, j, none⟩) (by rw [← HGG.out]; exact Nat.le_refl _) _⟩
                clear hr'
                go_wp2_with fail
                go_meet
                exact ⟨rfl, HS3.out⟩
              · have HRR : Hid (r = r') := hid (by rw [← hr', if_neg hneg])
                clear hr'
                go_wp2_with fail
                go_meet
                exact ⟨rfl, by rw [← HRR.out]; exact HS1.out, HS2.out⟩
            case rest =>
              obtain ⟨rfl, hb4, hw4⟩ := hcut
              have HB4 := hid hb4; have HW4 := hid hw4
              have c11 : wc.cell? ⟨g, j, none⟩ = some (.int .i64 r') := by
                have := hb4.cell j (by rw [List.length_set]; exact HLV.out)
                rwa [List.getElem_set_self] at this
              clear hb4 hw4 c10 f10 HS1 HS2
              by_cases hja : j < a.length
              · obtain ⟨ba, oa, rfl, hca⟩ := (HA2.out.below HW4.out).cells j hja
                have hk := HK1.out.get j hja
                have HGP' := HGP.out
                rw [if_pos hja, getD_lt a j hja] at HGP'
                obtain ⟨k, hk'⟩ : ∃ k, a[j] = k := ⟨_, rfl⟩
                rw [hk'] at hca hk HGP'
                obtain ⟨m, hm⟩ : ∃ m, k * r' = m := ⟨_, rfl⟩
                rw [hm] at HGP'
                have e3 : IntKind.i64.wrap (k * r') = m := by rw [hm]; exact IntWalk.i64_in _ (by constructor <;> omega)
                have e4 : IntKind.i64.wrap (gp + m) = gp + m := IntWalk.i64_in _ (by constructor <;> omega)
                have HGQ := hid HGP'
                clear HGP' hm hk' HGP
                go_wp2_with fail
                go_big_quiet (fail)
                go_wp2_with fail
                go_roundw
                case rel => exact ⟨j + 1, V.set j r', by omega, by go_num, by rw [HGQ.out], HFN.out _ (HB4.out.same rfl) (below_drewN HW4.out _)⟩
                case measure => simp [intOf]; omega
              · obtain ⟨jb, hjb⟩ : ∃ jb, j - a.length = jb := ⟨_, rfl⟩
                have hjb2 : jb < b.length := by have := HNE.out; omega
                obtain ⟨ba, oa, rfl, hca⟩ := (HB2'.out.below HW4.out).cells jb hjb2
                have hk := HK2.out.get jb hjb2
                have HGP' := HGP.out
                rw [if_neg hja, hjb, getD_lt b jb hjb2] at HGP'
                obtain ⟨k, hk'⟩ : ∃ k, b[jb] = k := ⟨_, rfl⟩
                rw [hk'] at hca hk HGP'
                obtain ⟨m, hm⟩ : ∃ m, k * r' = m := ⟨_, rfl⟩
                rw [Int.neg_mul, hm] at HGP'
                have e0 : IntKind.i64.wrap ((j : Int) - (a.length : Int)) = (jb : Int) := by rw [show (j : Int) - (a.length : Int) = (jb : Int) by omega]; exact IntWalk.i64_in _ (by constructor <;> omega)
                have e3 : IntKind.i64.wrap (k * r') = m := by rw [hm]; exact IntWalk.i64_in _ (by constructor <;> omega)
                have e4 : IntKind.i64.wrap (gp - m) = gp - m := IntWalk.i64_in _ (by constructor <;> omega)
                have HGQ : Hid (gapOf a b (V.set j r') = gp - m) := hid (by rw [HGP']; omega)
                clear HGP' hm hk' HGP hjb
                go_wp2_with fail
                go_big_quiet (fail)
                go_wp2_with fail
                go_roundw
                case rel => exact ⟨j + 1, V.set j r', by omega, by go_num, by rw [HGQ.out], HFN.out _ (HB4.out.same rfl) (below_drewN HW4.out _)⟩
                case measure => simp [intOf]; omega
          · have HFN : Hid (Far a b w2 g N V _) := hid ⟨hF.bl, hF.len, hF.small, fun k hk => hF.zero k (by omega), hF.bel⟩
            clear hF
            go_wp2_with fail
            go_meet
            exact ⟨V, rfl, HFN.out⟩
        · have HFN : Hid (Far a b w2 g N V _) := hid ⟨hF.bl, hF.len, hF.small, fun k hk => hF.zero k (by omega), hF.bel⟩
          clear hF
          go_wp2_with fail
          go_meet
          exact ⟨V, rfl, HFN.out⟩
    case rest =>
      obtain ⟨V, rfl, hF⟩ := hcut
      rename ∀ (a : Act) (w : World), Code.wp Try.prog _ _ a w → _ => hK
      refine hK _ _ ?_
      exact sum_tail2 p c a q d b x f u w w2 n N g _ ql cl vs HA2 HB2' hsa hsb HB2 H0 HMN HX HN hnb HNE hN10 HGG l5 l6 HK1 HK2 V _ hF _ _ _ _ _ _ _ _ _ _ _ _ _ _ _ _ _ _ _ _ _ _ _ _ _ _ _ _ _ _ _ _ _ _ _ _ _ _ _ _ _ _ _ _ _ _ _ _ _ _ _ _ _ _ _ _ _ _ _ _ _ _ _ _ _ _ _ _ _ _ _ _ _ _ _ _ _ _ _ _ _ _ _ _ _ _ _ _ _ _ _ _ _ _ _ _ _ _ _ _ _ _ _ _ _ _ _ _ _ _ _ _ _ _ _ _ _ _ _ _ _ _ _ _ _ _ _ _ _ _ _ _ _ _ _ _ _ _ _ _ _ _ _ _ _ _ _ _ _ _ _ _ _ _ _ _ _ _ _ _ _ _ _ _ _ _ _ _ _ _ _ _ _ _ _ _ _ _ _ _ _ _ _ _ _ _ _ _ _ _ _ _ _ _ _ _ _ _ _ _ _ _ _ _ _ _ _ _ _ _ _ _ _ _ _ _ _ _ _ _ _ _ _ _ _ _ _ _ _ _ _ _ _ _ _ _ _ _ _ _ _ _ _ _ _ _
end Go.Proofs.Ytbdkogccjnmfoaa
