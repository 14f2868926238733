/- UnitsApart's walk. -/
import Derived.Test.YtplekhfnidhcoaaUnP
import Derived.Test.YtplekhfnidhcoaaUnL
namespace Go.Proofs.Ytplekhfnidhcoaa
open Go.RowKit Go.Shelf Go.Deep

theorem take_nodup {us : List Int} {i : Nat} (hi : i < us.length) (h : (us.take i).Nodup) (hn : ∀ k (hk : k < i), us[i] ≠ us[k]'(by omega)) : (us.take (i + 1)).Nodup := by
  rw [List.take_succ_eq_append_getElem hi]
  refine List.pairwise_append.2 ⟨h, List.pairwise_singleton _ _, fun a ha b hb e => ?_⟩
  rw [List.mem_singleton] at hb
  subst hb
  obtain ⟨k, hk, hk2⟩ := List.getElem_of_mem ha
  rw [List.length_take] at hk
  rw [List.getElem_take] at hk2
  exact hn k (by omega) (by rw [hk2, e])
theorem take_has {us : List Int} {z : Int} {k : Nat} (h : k < us.length) : decide (z ∈ us.take (k + 1)) = (decide (z ∈ us.take k) || decide (z = us[k])) := by
  rw [List.take_succ_eq_append_getElem h, ← Bool.decide_or]
  exact decide_eq_decide.2 (by rw [List.mem_append, List.mem_singleton])
set_option maxRecDepth 100000 in
set_option maxHeartbeats 8000000 in
theorem apart_walk (pu : Option Addr) (cu : Nat) (us : List Int) (pv : Option Addr) (cv : Nat) (vs : List ByteArray) (a b : Int) (w : World) (hU : IntsAt w pu us) (hV : StrsAt w pv vs)
    (hu : us.length ≤ 17592186044416) (hv : vs.length ≤ 17592186044416) (ha : Is64 a) (hb : Is64 b) :
    Calls Try.prog 6 #[.agg #[.slice pu us.length cu, .slice pv vs.length cv, .int .i64 a, .int .i64 b]] w fun e w' => e = .returned (.bool true) ∧ Below w.heap.size w w' := by
  obtain ⟨nu, hNU⟩ : ∃ n, us.length = n := ⟨_, rfl⟩
  obtain ⟨n, hN⟩ : ∃ n, vs.length = n := ⟨_, rfl⟩
  have HU := hid hU; have HV := hid hV; have HNU := hid hNU; have HN := hid hN; have HKA := hid ha; have HKB := hid hb
  have HW1 : Hid (∀ k, Is64 k → ∀ W, Below w.heap.size w W → Calls Try.prog 13 #[.slice pu nu cu, .slice pv n cv, .int .i64 k] W fun e w' => ∃ v, e = .returned (.tuple #[v, .bool (wayO us vs k).2]) ∧ BOwn w' W.heap.size v (wayO us vs k).1 ∧ Below W.heap.size W w') := hid (fun k hk W hW => by
    have := way_any pu cu us pv cv vs k W (hU.below hW) (hV.below hW) hu hv hk
    rw [hNU, hN] at this
    exact this)
  rw [hNU] at hu ⊢
  rw [hN] at hv ⊢
  have bx := Box.new w 47 #[.slice pu nu cu, .slice pv n cv, .int .i64 a, .int .i64 b]
  have HB0 := hid (alloc_below0 w (.cells #[.slice pu nu cu, .slice pv n cv, .int .i64 a, .int .i64 b] 47))
  have x0 : _ = some _ := bx.c 0; have x1 : _ = some _ := bx.c 1; have x2 : _ = some _ := bx.c 2; have x3 : _ = some _ := bx.c 3
  have hnz : (n : Int) ≤ 17592186044416 := by omega
  have hnuz : (nu : Int) ≤ 17592186044416 := by omega
  clear hU hV hNU hN ha hb bx
  go_enter Try.func6, Try.ntmps6
  go_wp2_with fail
  refine (head_any _).mono ?_
  rintro e w1 ⟨rfl, hb1⟩
  have HB1 := hid (HB0.out.trans (hb1.mono HB0.out.size))
  clear hb1 x0 x1 x2 x3
  go_wp2_with fail
  refine (HW1.out a HKA.out _ HB1.out).mono ?_
  rintro e w2 ⟨v1, rfl, ho1, hb2⟩
  have HB2 := hid (HB1.out.trans (hb2.mono HB1.out.size))
  have HO1 := hid ho1
  clear ho1 hb2
  go_wp2_with fail
  refine (HW1.out b HKB.out _ HB2.out).mono ?_
  rintro e w3 ⟨v2, rfl, ho2, hb3⟩
  have HB3 := hid (HB2.out.trans (hb3.mono HB2.out.size))
  have ho1' := HO1.out.below hb3
  obtain ⟨p1, c1, rfl⟩ := ho1'.form
  obtain ⟨p2, c2, rfl⟩ := ho2.form
  have hsm := wayO_small us vs a HKA.out
  have hsm2 := wayO_small us vs b HKB.out
  have HA := hid (ho1'.rd (by unfold maxLen; omega)); have HBB := hid (ho2.rd (by unfold maxLen; omega))
  have HINJ := hid (fun hu hv ha hb => wayO_inj (us := us) (vs := vs) hu hv (a := a) (b := b) ha hb)
  have HSY := hid (wayO_sym (us := us) (vs := vs) a)
  clear ho1' ho2 hb3 HO1 HW1
  obtain ⟨xs, hxs⟩ : ∃ l, (wayO us vs a).1 = l := ⟨_, rfl⟩
  obtain ⟨ys, hys⟩ : ∃ l, (wayO us vs b).1 = l := ⟨_, rfl⟩
  obtain ⟨ok1, hok1⟩ : ∃ l, (wayO us vs a).2 = l := ⟨_, rfl⟩
  obtain ⟨ok2, hok2⟩ : ∃ l, (wayO us vs b).2 = l := ⟨_, rfl⟩
  have HRS : Hid (Rise vs → ∀ i (hi : i + 1 < xs.length), (xs[i]).1.toList < (xs[i + 1]).1.toList) := hid (by subst hxs; exact fun h i hi => wayO_rise a h i hi)
  simp only [hxs, hys, hok1, hok2] at HA HBB HINJ HSY hsm hsm2 ⊢
  clear hxs hys hok1 hok2
  cases ok1 with
  | false =>
    go_wp2
    go_ret
    exact ⟨rfl, HB3.out⟩
  | true =>
  cases ok2 with
  | false =>
    go_wp2
    go_ret
    exact ⟨rfl, HB3.out⟩
  | true =>
  obtain ⟨q1, hq1⟩ : ∃ q, xs.length = q := ⟨_, rfl⟩
  obtain ⟨q2, hq2⟩ : ∃ q, ys.length = q := ⟨_, rfl⟩
  have HSM : Hid (∀ W, Below w3.heap.size w3 W → Calls Try.prog 15 #[.slice p1 q1 c1, .slice p2 q2 c2] W fun e w' => e = .returned (.bool (decide (xs = ys))) ∧ Below W.heap.size W w') := hid (fun W hW => by
    have := rsame_any p1 c1 xs p2 c2 ys W (HA.out.below hW) (HBB.out.below hW)
    rw [hq1, hq2] at this
    exact this)
  rw [hq1] at hsm ⊢
  rw [hq2]
  have HQ1 := hid hq1
  have hq1z : (q1 : Int) ≤ 63 := by omega
  clear hq1 hq2 hsm hsm2 HBB
  have HLOW : Hid (∀ W, Below w3.heap.size w3 W → Below w.heap.size w W) := hid (fun W hW => HB3.out.trans (hW.mono HB3.out.size))
  have HU3 : Hid (IntsAt w3 pu us) := hid (HU.out.below HB3.out)
  have HV3 : Hid (StrsAt w3 pv vs) := hid (HV.out.below HB3.out)
  clear HU HV HB0 HB1 HB2 HB3
  go_wp2_with fail
  go_loopw [12, 13] (fun iv _ wr => ∃ i : Nat, i ≤ nu ∧ iv = .int .i64 i ∧ (us.take i).Nodup ∧ Below w3.heap.size w3 wr) (fun iv _ _ => nu - (intOf iv).toNat)
  case atStart => exact ⟨0, Nat.zero_le _, rfl, List.Pairwise.nil, Below.refl _ _⟩
  case round =>
    obtain ⟨i, hi, rfl, hnd, hlow⟩ := hrel
    have HND := hid hnd; have HLW := hid hlow
    clear hnd hlow
    by_cases hlt : i < nu
    · have hil : i < us.length := by rw [HNU.out]; exact hlt
      obtain ⟨bu, ou, rfl, hcu⟩ := HU3.out.cells i hil
      have hin : (i : Int) < (nu : Int) := by omega
      have HCU := hid hcu
      clear hcu
      go_wp2_with fail
      go_loopw [13] (fun kv wr2 => ∃ k : Nat, k ≤ i ∧ kv = .int .i64 k ∧ (∀ k' (hk : k' < k), us[i]'hil ≠ us.getD k' 0) ∧ Below w3.heap.size w3 wr2) (fun kv _ => i - (intOf kv).toNat)
      case atStart => exact ⟨0, Nat.zero_le _, rfl, fun k' hk => absurd hk (Nat.not_lt_zero _), HLW.out⟩
      case round =>
        obtain ⟨k, hk, rfl, hne, hlow2⟩ := hrel
        have HNE := hid hne; have HLW2 := hid hlow2
        clear hne hlow2
        by_cases hki : k < i
        · have hkl : k < us.length := by omega
          obtain ⟨bu', ou', he, hck⟩ := HU3.out.cells k hkl
          cases he
          have hg : us.getD k 0 = us[k]'hkl := by simp [hkl]
          obtain ⟨z1, hz1⟩ : ∃ z, us[i]'hil = z := ⟨_, rfl⟩
          obtain ⟨z2, hz2⟩ : ∃ z, us[k]'hkl = z := ⟨_, rfl⟩
          have hcu := below_cell HLW2.out _ _ HCU.out
          have hck2 := below_cell HLW2.out _ _ hck
          rw [hz1] at hcu
          rw [hz2] at hck2
          have hne := later_some wr
          have d1 := later_cell hcu
          have d2 := later_cell hck2
          have hkz : (k : Int) < (i : Int) := by omega
          have hkn : (k : Int) < (nu : Int) := by omega
          have HZ1 := hid hz1; have HZ2 := hid hz2; have HG := hid hg
          clear hcu hck2 hck hz1 hz2 hg
          by_cases hzz : z1 = z2
          · subst hzz
            go_wp2_with fail
            refine wp_region_later (by kernel_rfl) (by kernel_rfl) ?_
            repeat (go_big_quiet_step (fail))
            refine wpQuiet_nil ?_
            intro _ hw'
            obtain ⟨b3, hw''⟩ := hw'
            subst hw''
            have HL3 := hid (HLOW.out _ (HLW2.out.trans (b3.below.mono HLW2.out.size)))
            clear d1 d2
            go_wp2
            go_ret
            exact ⟨rfl, HL3.out⟩
          · have hzb : (z1 == z2) = false := beq_eq_false_iff_ne.2 hzz
            go_wp2_with fail
            refine wp_region_later (by kernel_rfl) (by kernel_rfl) ?_
            repeat (go_big_quiet_step (fail))
            refine wpQuiet_nil ?_
            intro _ hw'
            obtain ⟨b3, hw''⟩ := hw'
            subst hw''
            have HL3 := hid (HLW2.out.trans (b3.below.mono HLW2.out.size))
            have HZZ := hid hzz
            clear d1 d2 hzz hzb
            go_wp2
            go_roundw
            case rel =>
              refine ⟨k + 1, by omega, by go_num, fun k' hk' => ?_, HL3.out⟩
              by_cases hkk : k' < k
              · exact HNE.out k' hkk
              · obtain rfl : k' = k := by omega
                rw [HG.out, HZ1.out, HZ2.out]
                exact HZZ.out
            case measure => simp [intOf]; omega
        · obtain rfl : k = i := by omega
          have HNN : Hid ((us.take (k + 1)).Nodup) := hid (take_nodup hil HND.out (fun k' hk' => by
            have := HNE.out k' hk'
            have hkl : k' < us.length := by omega
            rw [show us.getD k' 0 = us[k']'hkl by simp [hkl]] at this
            exact this))
          go_wp2
          go_roundw
          case rel => exact ⟨k + 1, by omega, by go_num, HNN.out, HLW2.out⟩
          case measure => simp [intOf]; omega
    · obtain rfl : i = nu := by omega
      have HNOD : Hid us.Nodup := hid (by have := HND.out; rw [List.take_of_length_le (by rw [HNU.out]; omega)] at this; exact this)
      clear HND
      go_wp2_with fail
      go_loopw [14] (fun iv wr => ∃ t : Nat, (t + 1 ≤ n ∨ t = 0) ∧ iv = .int .i64 ((t : Int) + 1) ∧ (∀ j (hj : j + 1 < vs.length), j < t → (vs[j]).toList < (vs[j + 1]).toList) ∧ Below w3.heap.size w3 wr) (fun iv _ => n - (intOf iv).toNat)
      case atStart => exact ⟨0, .inr rfl, rfl, fun j _ hj => absurd hj (Nat.not_lt_zero _), HLW.out⟩
      case round =>
        clear HLW
        obtain ⟨t, htn, rfl, hri, hlow2⟩ := hrel
        have HRI := hid hri; have HLW := hid hlow2
        clear hri hlow2
        by_cases htl : t + 1 < n
        · have ht1 : t + 1 < vs.length := by rw [HN.out]; exact htl
          have ht0 : t < vs.length := by omega
          obtain ⟨bv, ov, rfl, hca⟩ := HV3.out.cells t ht0
          obtain ⟨bv', ov', he, hcb⟩ := HV3.out.cells (t + 1) ht1
          cases he
          obtain ⟨s1, hs1⟩ : ∃ z, vs[t]'ht0 = z := ⟨_, rfl⟩
          obtain ⟨s2, hs2⟩ : ∃ z, vs[t + 1]'ht1 = z := ⟨_, rfl⟩
          have hca2 := below_cell HLW.out _ _ hca
          have hcb2 := below_cell HLW.out _ _ hcb
          rw [hs1] at hca2
          rw [hs2] at hcb2
          have hne := later_some wr
          have d1 := later_cell hca2
          have d2 := later_cell hcb2
          have htz : (t : Int) + 1 < (n : Int) := by omega
          have htn0 : (t : Int) < (n : Int) := by omega
          have HS1 := hid hs1; have HS2 := hid hs2
          clear hca hcb hca2 hcb2 hs1 hs2 htn
          have hbl := bytesLess_eq s1.toList s2.toList
          by_cases hlt2 : s1.toList < s2.toList
          · rw [decide_eq_true hlt2] at hbl
            have HLT := hid hlt2
            clear hlt2
            go_wp2_with fail
            refine wp_region_later (by kernel_rfl) (by kernel_rfl) ?_
            repeat (go_big_quiet_step (fail))
            refine wpQuiet_nil ?_
            intro _ hw'
            obtain ⟨b3, hw''⟩ := hw'
            subst hw''
            have HL3 := hid (HLW.out.trans (b3.below.mono HLW.out.size))
            clear d1 d2 hbl
            go_wp2
            go_roundw
            case rel =>
              refine ⟨t + 1, .inl (by omega), by go_num, fun j hj hjt => ?_, HL3.out⟩
              by_cases hjt2 : j < t
              · exact HRI.out j hj hjt2
              · obtain rfl : j = t := by omega
                rw [HS1.out, HS2.out]
                exact HLT.out
            case measure => simp [intOf]; omega
          · rw [decide_eq_false hlt2] at hbl
            clear hlt2
            go_wp2_with fail
            refine wp_region_later (by kernel_rfl) (by kernel_rfl) ?_
            repeat (go_big_quiet_step (fail))
            refine wpQuiet_nil ?_
            intro _ hw'
            obtain ⟨b3, hw''⟩ := hw'
            subst hw''
            have HL3 := hid (HLOW.out _ (HLW.out.trans (b3.below.mono HLW.out.size)))
            clear d1 d2 hbl
            go_wp2
            go_ret
            exact ⟨rfl, HL3.out⟩
        · have HRISE : Hid (Rise vs) := hid (rise_of (fun j hj => HRI.out j hj (by rw [HN.out] at hj; omega)))
          have htz : (n : Int) ≤ (t : Int) + 1 := by omega
          clear HRI htn htl
          go_wp2_with fail
          go_loopw [15, 16, 17] (fun iv _ _ wr => ∃ c : Nat, c ≤ q1 ∧ iv = .int .i64 c ∧ Below w3.heap.size w3 wr) (fun iv _ _ _ => q1 - (intOf iv).toNat)
          case atStart => exact ⟨0, Nat.zero_le _, rfl, HLW.out⟩
          case round =>
            clear HLW
            obtain ⟨c, hc, rfl, hlow3⟩ := hrel
            have HLW := hid hlow3
            clear hlow3
            by_cases hcq : c < q1
            · have hcl : c < xs.length := by rw [HQ1.out]; exact hcq
              obtain ⟨bx, ox, rfl, hlf⟩ := HA.out.cells c hcl
              have HLF := hid hlf
              have HSYM := hid (HSY.out (xs[c]'hcl) (List.getElem_mem hcl))
              have HPREV : Hid (∀ c', c' + 1 = c → ∃ s, (∀ W, Below w3.heap.size w3 W → W.cell? ⟨bx, ox + c' * 4, none⟩ = some (.string s)) ∧ s.toList < (xs[c]'hcl).1.toList) := hid (fun c' hc' => by
                subst hc'
                obtain ⟨bx', ox', he, hlf'⟩ := HA.out.cells c' (by omega)
                cases he
                exact ⟨_, fun W hW => below_cell hW _ _ hlf'.var, HRS.out HRISE.out c' hcl⟩)
              obtain ⟨⟨sx, z⟩, hx⟩ : ∃ x, xs[c]'hcl = x := ⟨_, rfl⟩
              rw [hx] at HLF HSYM HPREV
              dsimp only at HSYM HPREV
              clear hlf hx
              go_wp2_with fail
              go_loopw [16, 17] (fun okv kv wr2 => ∃ k : Nat, k ≤ i ∧ kv = .int .i64 k ∧ okv = .bool (decide (z ∈ us.take k)) ∧ Below w3.heap.size w3 wr2) (fun _ kv _ => i - (intOf kv).toNat)
              case atStart => exact ⟨0, Nat.zero_le _, rfl, rfl, HLW.out⟩
              case round =>
                clear HLW
                obtain ⟨k, hk, rfl, rfl, hlow4⟩ := hrel
                have HLW := hid hlow4
                clear hlow4
                by_cases hki : k < i
                · have hkl : k < us.length := by rw [HNU.out]; exact hki
                  obtain ⟨bu, ou, rfl, hcu⟩ := HU3.out.cells k hkl
                  have hst : decide (z ∈ us.take (k + 1)) = (decide (z ∈ us.take k) || decide (z = us[k]'hkl)) := take_has hkl
                  obtain ⟨y, hy⟩ : ∃ y, us[k]'hkl = y := ⟨_, rfl⟩
                  obtain ⟨bo, hbo⟩ : ∃ bo, decide (z ∈ us.take k) = bo := ⟨_, rfl⟩
                  rw [hy, hbo] at hst
                  rw [hbo]
                  have hcu2 := below_cell HLW.out _ _ hcu
                  rw [hy] at hcu2
                  have hcs2 := below_cell HLW.out _ _ HLF.out.sym
                  have hne := later_some wr
                  have d1 := later_cell hcu2
                  have d2 := later_cell hcs2
                  have hkz : (k : Int) < (i : Int) := by omega
                  have hcz : (c : Int) < (q1 : Int) := by omega
                  have HST := hid hst
                  dsimp only at d2
                  clear hcu hcu2 hcs2 hy hbo hst
                  cases bo with
                  | true =>
                    go_wp2_with fail
                    refine wp_region_later (by kernel_rfl) (by kernel_rfl) ?_
                    repeat (go_big_quiet_step (fail))
                    refine wpQuiet_nil ?_
                    intro _ hw'
                    obtain ⟨b3, hw''⟩ := hw'
                    subst hw''
                    have HL3 := hid (HLW.out.trans (b3.below.mono HLW.out.size))
                    clear d1 d2
                    go_wp2
                    go_roundw
                    case rel => exact ⟨k + 1, by omega, by go_num, by rw [HST.out]; rfl, HL3.out⟩
                    case measure => simp [intOf]; omega
                  | false =>
                    go_wp2_with fail
                    refine wp_region_later (by kernel_rfl) (by kernel_rfl) ?_
                    repeat (go_big_quiet_step (fail))
                    refine wpQuiet_nil ?_
                    intro _ hw'
                    obtain ⟨b3, hw''⟩ := hw'
                    subst hw''
                    have HL3 := hid (HLW.out.trans (b3.below.mono HLW.out.size))
                    clear d1 d2
                    go_wp2
                    go_roundw
                    case rel => exact ⟨k + 1, by omega, by go_num, by rw [HST.out]; simp; rfl, HL3.out⟩
                    case measure => simp [intOf]; omega
                · obtain rfl : k = i := by omega
                  have htr : decide (z ∈ us.take k) = true := decide_eq_true (by rw [List.take_of_length_le (by rw [HNU.out]; omega)]; exact HSYM.out)
                  rw [htr]
                  clear htr
                  have hcv2 := below_cell HLW.out _ _ HLF.out.name
                  have hcl2 := below_cell HLW.out _ _ HLF.out.list
                  have hcn2 := below_cell HLW.out _ _ HLF.out.var
                  have hne := later_some wr
                  have d1 := later_cell hcv2
                  have d2 := later_cell hcl2
                  have d3 := later_cell hcn2
                  have hcz : (c : Int) < (q1 : Int) := by omega
                  dsimp only at d3
                  clear hcv2 hcl2 hcn2
                  rcases Nat.eq_zero_or_pos c with hc0 | hc0
                  · subst hc0
                    go_wp2_with fail
                    refine wp_region_later (by kernel_rfl) (by kernel_rfl) ?_
                    repeat (go_big_quiet_step (fail))
                    refine wpQuiet_nil ?_
                    intro _ hw'
                    obtain ⟨b3, hw''⟩ := hw'
                    subst hw''
                    have HL3 := hid (HLW.out.trans (b3.below.mono HLW.out.size))
                    clear d1 d2 d3
                    go_wp2
                    go_roundw
                    case rel => exact ⟨0 + 1, by omega, by go_num, HL3.out⟩
                    case measure => simp [intOf]; omega
                  · obtain ⟨c', rfl⟩ : ∃ c', c = c' + 1 := ⟨c - 1, by omega⟩
                    obtain ⟨s, hsc, hsl⟩ := HPREV.out c' rfl
                    have d4 := later_cell (hsc wr HLW.out)
                    have hbl := bytesLess_eq s.toList sx.toList
                    rw [decide_eq_true hsl] at hbl
                    have hcz1 : (0 : Int) < (c' : Int) + 1 := by omega
                    have hcz2 : (c' : Int) < (q1 : Int) := by omega
                    clear hsc hsl
                    go_wp2_with fail
                    refine wp_region_later (by kernel_rfl) (by kernel_rfl) ?_
                    repeat (go_big_quiet_step (fail))
                    refine wpQuiet_nil ?_
                    intro _ hw'
                    obtain ⟨b3, hw''⟩ := hw'
                    subst hw''
                    have HL3 := hid (HLW.out.trans (b3.below.mono HLW.out.size))
                    clear d1 d2 d3 d4 hbl
                    go_wp2
                    go_roundw
                    case rel => exact ⟨c' + 1 + 1, by omega, by go_num, HL3.out⟩
                    case measure => simp [intOf]; omega
            · have hcz : (q1 : Int) ≤ (c : Int) := by omega
              have hin := HINJ.out HNOD.out HRISE.out trivial trivial
              have HC := hid (HSM.out wr HLW.out)
              rw [hin] at HC
              clear hin
              by_cases hab : a = b
              · subst hab
                have he : decide (a = a) = true := decide_eq_true rfl
                rw [he] at HC
                clear he
                go_wp2_with fail
                refine HC.out.mono ?_
                rintro e w9 ⟨rfl, hb9⟩
                have HL9 := hid (HLOW.out _ (HLW.out.trans (hb9.mono HLW.out.size)))
                clear hb9
                go_wp2
                go_ret
                exact ⟨rfl, HL9.out⟩
              · have he : decide (a = b) = false := decide_eq_false hab
                have hbq : (a == b) = false := beq_eq_false_iff_ne.2 hab
                rw [he] at HC
                clear he
                go_wp2_with fail
                refine HC.out.mono ?_
                rintro e w9 ⟨rfl, hb9⟩
                have HL9 := hid (HLOW.out _ (HLW.out.trans (hb9.mono HLW.out.size)))
                clear hb9
                go_wp2
                go_ret
                exact ⟨rfl, HL9.out⟩
end Go.Proofs.Ytplekhfnidhcoaa
