import Derived.Test.YtgidgmgpgfonnaaGreatKSComp
/- What the document's Compose answers. -/
namespace Go.Proofs.YtgidgmgpgfonnaaGreat
open Go.RowKit Go.Deep

theorem le_of_leS {a b : Bk} (h : leS a.1 b.1 = true) : Le ltI a b := by
  unfold Le
  cases hl : ltI b a with
  | false => rfl
  | true =>
    exfalso
    have h1 := (cmp_lt b a).2 hl
    unfold cmpK at h1
    have h2 := bytes_anti b.1.data.toList a.1.data.toList
    unfold leS at h
    rw [Bool.or_eq_true, less_bytes, decide_eq_true_eq, beq_iff_eq, ByteArray.toList_eq, ByteArray.toList_eq] at h
    rcases h with h | h
    · omega
    · rw [h, bytes_refl] at h1
      omega
theorem le_of_not_leS {a b : Bk} (h : leS a.1 b.1 = false) : Le ltI b a := by
  unfold Le
  cases hl : ltI a b with
  | false => rfl
  | true =>
    exfalso
    have h1 := (cmp_lt a b).2 hl
    unfold cmpK at h1
    have h2 := leS_lt h
    have h3 := bytes_anti b.1.data.toList a.1.data.toList
    have h4 : Lib.compareBytes b.1.data.toList a.1.data.toList = -1 := h2
    omega
/-- Put in its place, what is in order stays so. -/
theorem with_sd {ks : List Bk} {k : Bk} {j : Nat} (hs : Sd ltI ks) (h1 : ∀ z ∈ ks.drop j, leS z.1 k.1 = false) (h2 : ∀ z, 0 < j → ks[j - 1]? = some z → leS z.1 k.1 = true) (hj : j ≤ ks.length) : Sd ltI (ks.take j ++ [k] ++ ks.drop j) := by
  have hs' := hs
  rw [← List.take_append_drop j ks] at hs'
  obtain ⟨s1, s2, s3⟩ := sd_parts hs'
  have hlow : ∀ z ∈ ks.take j, Le ltI z k := fun z hz => by
    have hj0 : 0 < j := by
      rcases Nat.eq_zero_or_pos j with h | h
      · rw [h] at hz; simp at hz
      · exact h
    obtain ⟨i, hi, rfl⟩ := List.getElem_of_mem hz
    rw [List.length_take] at hi
    have hl : j - 1 < ks.length := by omega
    have h3 := le_of_leS (a := ks[j - 1]) (b := k) (h2 _ hj0 (List.getElem?_eq_getElem hl))
    rw [List.getElem_take]
    exact swoI.le_trans (sd_at hs (by omega) (by omega) (by omega) swoI) h3
  have hhigh : ∀ z ∈ ks.drop j, Le ltI k z := fun z hz => le_of_not_leS (a := z) (b := k) (h1 z hz)
  unfold Sd
  rw [List.pairwise_append, List.pairwise_append]
  refine ⟨⟨s1, List.pairwise_singleton _ _, fun a ha b hb => by rw [List.mem_singleton.1 hb]; exact hlow a ha⟩, s2, fun a ha b hb => ?_⟩
  rcases List.mem_append.1 ha with ha | ha
  · exact s3 a ha b hb
  · rw [List.mem_singleton.1 ha]; exact hhigh b hb
theorem with_perm (ks : List Bk) (k : Bk) (j : Nat) : (ks.take j ++ [k] ++ ks.drop j).Perm (ks ++ [k]) := by
  have h : (ks.take j ++ [k] ++ ks.drop j).Perm (ks.take j ++ ks.drop j ++ [k]) := by
    rw [List.append_assoc, List.append_assoc]
    exact List.Perm.append_left _ List.perm_append_comm
  rwa [List.take_append_drop] at h
/-- What the document's Compose leaves. -/
def RCompEnd (sg : List Sym) (as' bs : List Bn) (w : World) (e : Ending) (w' : World) : Prop := Below w.heap.size w w' ∧
  ((e = .returned (.tuple #[.slice none 0 0, .int .i64 73]) ∧ ∃ b ∈ as', growN bs b.2.1 b.2.2 400 < 0) ∨
   ((∀ b ∈ as', 0 ≤ growN bs b.2.1 b.2.2 400) ∧ ∃ (v : Value) (ks ms D : List Bk) (rs : List Kv), e = .returned (.tuple #[v, .int .i64 0]) ∧ as'.length = rs.length ∧ (∀ i (h : i < as'.length) (h' : i < rs.length), rs[i].tn = canonT (sgOf sg) (pinN bs as'[i].2.1 as'[i].2.2)) ∧ ks = comp1 as' rs ∧ ms.map bkBn = bs.filter (fun b => (getB as' b.1).isNone) ∧ (Sd ltI ks → Sd ltI D) ∧ (ks ++ ms).Perm D ∧ LstB false w.heap.size w' v D))
set_option maxRecDepth 100000 in
set_option maxHeartbeats 8000000 in
theorem rcompose_any (S : Option Addr) (n cap : Nat) (sg : List Sym) (pa : Option Addr) (ca : Nat) (as' : List Bn) (pb : Option Addr) (cb : Nat) (bs : List Bn) (w : World) (hS : SigAt w S n sg) (hA : BindsAt w pa as'.length as') (hB : BindsAt w pb bs.length bs) (hna : as'.length ≤ 1000000) (hnb : bs.length ≤ 1000000) (hsum : as'.length + bs.length ≤ 1048576) (hnd : ∀ b ∈ bs, nodesF b.2.2 ≤ 1048576) :
    Calls Tryz.prog 13 #[.slice S n cap, .slice pa as'.length ca, .slice pb bs.length cb] w (RCompEnd sg as' bs w) := by
  obtain ⟨i0, hi0, hz0, hz1, hz2⟩ := info_parts Tryz.info43
  have hmax : maxLen = 9223372036854775807 := rfl
  have HA := hid hA; have HB := hid hB; have HS := hid hS
  clear hS hA hB
  go_enter Tryz.func13, Tryz.ntmps13
  go_wp2_with fail
  go_loopw [8, 9, 10, 11] (fun ov iv _ _ wr => ∃ (j : Nat) (v : Value) (rs : List Kv), j ≤ as'.length ∧ v = ov ∧ iv = .int .i64 j ∧ rs.length = j ∧ LstB false w.heap.size wr v (comp1 (as'.take j) rs) ∧ (∀ b ∈ as'.take j, 0 ≤ growN bs b.2.1 b.2.2 400) ∧ (∀ i (h : i < as'.length) (h' : i < rs.length), rs[i].tn = canonT (sgOf sg) (pinN bs as'[i].2.1 as'[i].2.2)) ∧ Below w.heap.size w wr) (fun _ iv _ _ _ => as'.length - (intOf iv).toNat)
  case atStart => exact ⟨0, _, [], Nat.zero_le _, rfl, rfl, rfl, LstB.nil _ _ _, by simp, fun i _ h' => absurd h' (by simp), Below.refl _ _⟩
  case round =>
    obtain ⟨j, ov, rs, hj, rfl, rfl, hrl, hL, hle, hcan, hlow⟩ := hrel
    have HL := hid hL; have HLE := hid hle; have HCAN := hid hcan; have HW := hid hlow; have HRL := hid hrl
    clear hL hle hcan hlow hrl
    by_cases hlt : j < as'.length
    · obtain ⟨b1, o1, a1, c1, rfl, hbd⟩ := (HA.out.below HW.out).cells j hlt
      have htk : as'.take (j + 1) = as'.take j ++ [as'[j]] := List.take_succ_eq_append_getElem hlt
      have hmem : as'[j] ∈ as' := List.getElem_mem hlt
      obtain ⟨⟨vn, ⟨x, l⟩⟩, hy⟩ : ∃ y, as'[j] = y := ⟨_, rfl⟩
      rw [hy] at hbd htk hmem
      have HTK := hid htk; have HY := hid hy; have HMEM := hid hmem
      have HBD := hid hbd
      have p1 := hbd.name; have p2 := hbd.sym; have p3 := hbd.list
      dsimp only at p1 p2 p3
      have HAP := hid (rapply_any S n cap sg pb cb bs x l a1 c1 wr (HS.out.below HW.out) (HB.out.below HW.out) (by omega) hnd hbd.tm)
      have hwz := HW.out.size
      clear hbd htk hy hmem
      go_wp2_with fail
      clear p1 p2 p3
      refine HAP.out.mono ?_
      intro e w3 hend
      unfold RApplyEnd at hend
      obtain ⟨hb3, hend⟩ := hend
      rcases hend with ⟨h1, rfl⟩ | ⟨h1, r, a3, c3, hr3, rfl, hO3⟩
      · have H1 := hid h1
        have bz := alloc_below0 w3 (.cells #[.string ⟨#[]⟩, .int .i64 0, .slice none 0 0] 27)
        have HB3 := hid (hb3.trans (bz.mono hb3.size))
        clear h1 hb3 bz HAP
        go_wp2_with fail
        go_ret2
        exact ⟨HW.out.trans (HB3.out.mono hwz), .inl ⟨rfl, _, HMEM.out, H1.out⟩⟩
      · have H1 := hid h1; have H2 := hid hr3
        have bz := alloc_below0 w3 (.cells #[.string r.1.1, .int .i64 r.1.2, .slice a3 (lenF r.2) c3] 27)
        have HB3 := hid (hb3.trans (bz.mono hb3.size))
        have YB : XBox (w3.alloc (.cells #[.string r.1.1, .int .i64 r.1.2, .slice a3 (lenF r.2) c3] 27)) w3.heap.size r.1 (.slice a3 (lenF r.2) c3) := World.alloc_heap_new w3 _
        have HYB := hid YB
        have HO3 := hid (hO3.below bz)
        clear h1 hr3 hb3 bz HAP hO3
        have hnew : comp1 (as'.take (j + 1)) (rs ++ [⟨r.1, r.2, a3, c3⟩]) = comp1 (as'.take j) rs ++ if (r.1.1.toList == vn.toList) = true then [] else [(vn, ⟨r.1, r.2, a3, c3⟩)] := by
          rw [HTK.out]
          exact comp1_snoc (by rw [HRL.out, List.length_take]; omega) (vn, (x, l)) ⟨r.1, r.2, a3, c3⟩
        have hle2 : ∀ b ∈ as'.take (j + 1), 0 ≤ growN bs b.2.1 b.2.2 400 := fun b hb => by
          rw [HTK.out] at hb
          rcases List.mem_append.1 hb with hb | hb
          · exact HLE.out b hb
          · rw [List.mem_singleton.1 hb]; exact H1.out
        have hcan2 : ∀ i (h : i < as'.length) (h' : i < (rs ++ [(⟨r.1, r.2, a3, c3⟩ : Kv)]).length), (rs ++ [(⟨r.1, r.2, a3, c3⟩ : Kv)])[i].tn = canonT (sgOf sg) (pinN bs as'[i].2.1 as'[i].2.2) := fun i h h' => by
          by_cases hi : i < rs.length
          · rw [List.getElem_append_left hi]; exact HCAN.out i h hi
          · have hij : i = j := by rw [List.length_append, List.length_singleton] at h'; have := HRL.out; omega
            subst hij
            simp only [HY.out]
            have e : (rs ++ [(⟨r.1, r.2, a3, c3⟩ : Kv)])[i]'h' = ⟨r.1, r.2, a3, c3⟩ := by
              rw [List.getElem_append_right (by omega)]
              simp [HRL.out]
            rw [e]
            exact H2.out
        have HLE2 := hid hle2; have HCAN2 := hid hcan2; have HNEW := hid hnew
        clear hle2 hcan2 hnew
        obtain ⟨V3, hV3⟩ : ∃ V3, w3.alloc (.cells #[.string r.1.1, .int .i64 r.1.2, .slice a3 (lenF r.2) c3] 27) = V3 := ⟨_, rfl⟩
        have hv3 : w3.heap.size < V3.heap.size := by rw [← hV3]; simp
        go_upto_region 8 with fail
        rw [hV3] at HB3 HYB HO3
        clear hV3 YB
        generalize w3.heap.size = gy at HYB hv3 ⊢
        have hne := later_some V3
        have y0 := later_cell HYB.out.c0
        have q0 := later_cell (HBD.out.below HB3.out).var
        dsimp only at q0
        have hj0 : (0 : Int) ≤ (j : Int) := by omega
        have hjn : (j : Int) < (as'.length : Int) := by omega
        by_cases he : r.1.1.toList = vn.toList
        · have heb : (r.1.1.toList == vn.toList) = true := by simp [he]
          have HEB := hid heb
          refine wp_region_later (by kernel_rfl) (by kernel_rfl) ?_
          repeat (go_big_quiet_step (fail))
          refine wpQuiet_nil ?_
          intro _ hw'
          obtain ⟨b4, hw''⟩ := hw'
          subst hw''
          have HB4 := hid (HB3.out.trans (b4.below.mono HB3.out.size))
          clear y0 q0 hne he heb
          go_wp2_with fail
          go_roundw
          case rel => exact ⟨j + 1, _, rs ++ [⟨r.1, r.2, a3, c3⟩], by omega, rfl, by go_num, by rw [List.length_append, HRL.out]; rfl, by rw [HNEW.out, if_pos HEB.out, List.append_nil]; exact HL.out.below HB4.out, HLE2.out, HCAN2.out, HW.out.trans (HB4.out.mono hwz)⟩
          case measure => simp [intOf]; omega
        · have heb : (r.1.1.toList == vn.toList) = false := by simp [he]
          have HEB := hid heb
          refine wp_region_later (by kernel_rfl) (by kernel_rfl) ?_
          repeat (go_big_quiet_step (fail))
          refine wpQuiet_nil ?_
          intro _ hw'
          obtain ⟨b4, hw''⟩ := hw'
          subst hw''
          obtain ⟨W4, hW4⟩ : ∃ W4, b4.now = W4 := ⟨_, rfl⟩
          have hb4 := b4.below
          rw [hW4] at hb4 ⊢
          have HB4 := hid (HB3.out.trans (hb4.mono HB3.out.size))
          have Y4 := HYB.out.below hb4
          have HO4 := hid (HO3.out.below hb4)
          have y1 := Y4.c0; have y2 := Y4.c1; have y3 := Y4.c2
          have q1 := ((HBD.out.below HB3.out).below hb4).var
          dsimp only at q1
          have hcl := comp1_len (as'.take j) rs
          rw [List.length_take] at hcl
          obtain ⟨K, hK⟩ : ∃ K, comp1 (as'.take j) rs = K := ⟨_, rfl⟩
          rw [hK] at HL HNEW hcl
          obtain ⟨kn, hkn⟩ : ∃ kn, K.length = kn := ⟨_, rfl⟩
          have hr0 := HL.out.row
          rw [hkn] at hr0 hcl
          have HR0 := hid (owns_below hr0 HB4.out)
          have HKN := hid hkn
          clear y0 q0 hne he heb hb4 hW4 Y4 hK hkn hr0 b4
          go_wp2_with fail
          go_region_law
            ((first
              | (refine step_append_lies _ (by rfl) (.tmp 43) (.tmp 51) 24 (by rfl) w.heap.size 43 i0 _ 4 64 Tryz.underlying24 hi0 hz0 hz1 hz2 rfl (by decide) ov kn (bkAll K) (by rfl) (owns_below HR0.out ((drew_below W4).trans (alloc_below0 W4.drew _))) ⟨W4.heap.size, 0, none⟩ 1 1 (bkCells (vn, ⟨r.1, r.2, a3, c3⟩)) (by rfl) rfl (World.news_of_block (heap_alloc_new W4 _)) (bk_one _) (by decide) (by omega) (by omega) (by have := HB4.out.size; simp; omega) _ rfl ?_; intro g5 cap5 w5 hown5 hgrow5 hat5 hlt5; have HO5 := hid hown5; have HG5 := hid hgrow5; have HA5 := hid hat5; clear hown5 hgrow5 hat5)
              | fail))
          all_goals
            go_wp2_with fail
            go_roundw
            case rel =>
              have b2 : Below wr.heap.size wr (W4.drew.alloc (.cells #[.string vn, .string r.1.1, .int .i64 r.1.2, .slice a3 (lenF r.2) c3] 43)) := HB4.out.trans (((drew_below W4).trans (alloc_below0 W4.drew _)).mono HB4.out.size)
              refine ⟨j + 1, _, rs ++ [⟨r.1, r.2, a3, c3⟩], by omega, rfl, by go_num, by rw [List.length_append, HRL.out]; rfl, ?_, HLE2.out, HCAN2.out, ?_⟩
              · rw [HNEW.out, if_neg (by simp [HEB.out])]
                refine HL.out.grow b2 (fun k hk => ?_) hwz HG5.out (HA5.out.imp (fun e => e.symm) (fun e => by rw [e]; rfl)) ?_
                · simp only [List.mem_singleton] at hk
                  subst hk
                  exact HO4.out.below ((drew_below W4).trans (alloc_below0 W4.drew _))
                · rw [bkAll_snoc, List.length_append, HKN.out]
                  exact HO5.out
              · exact HW.out.trans ((b2.mono hwz).grown HG5.out (by have := b2.size; omega) (fun k e => (owns_cells HL.out.row e).1))
            case measure => simp [intOf]; omega
    · have hjl : j = as'.length := by omega
      subst hjl
      have hL2 := HL.out; have hle2 := HLE.out
      rw [List.take_of_length_le (Nat.le_refl _)] at hL2 hle2
      have HL2 := hid hL2; have HLE2 := hid hle2
      have hcl := comp1_len as' rs
      obtain ⟨K, hK⟩ : ∃ K, comp1 as' rs = K := ⟨_, rfl⟩
      rw [hK] at HL2 hcl
      have HK := hid hK; have HCL := hid (show K.length ≤ as'.length from hcl)
      clear hL2 hle2 HL HLE hK hcl
      go_wp2_with fail
      go_loopw [8, 12, 13, 14] (fun ov iv _ _ wr2 => ∃ (i : Nat) (v : Value) (ms D : List Bk), i ≤ bs.length ∧ v = ov ∧ iv = .int .i64 i ∧ LstB false w.heap.size wr2 v D ∧ (K ++ ms).Perm D ∧ (Sd ltI K → Sd ltI D) ∧ ms.map bkBn = (bs.take i).filter (fun b => (getB as' b.1).isNone) ∧ Below w.heap.size w wr2) (fun _ iv _ _ _ => bs.length - (intOf iv).toNat)
      case atStart => exact ⟨0, _, [], K, Nat.zero_le _, rfl, rfl, HL2.out, by rw [List.append_nil], fun h => h, by simp, HW.out⟩
      case round =>
        obtain ⟨i, ov, ms, D, hi, rfl, rfl, hL, hper, hsd, hms, hlow⟩ := hrel
        have HLD := hid hL; have HPER := hid hper; have HSD := hid hsd; have HMS := hid hms; have HWi := hid hlow
        have hdl : D.length ≤ as'.length + i := by
          have g0 := hper.length_eq
          rw [List.length_append] at g0
          have g1 := congrArg List.length hms
          rw [List.length_map] at g1
          have g2 := List.length_filter_le (fun b : Bn => (getB as' b.1).isNone) (bs.take i)
          rw [List.length_take] at g2
          have g3 := HCL.out
          omega
        clear hL hper hsd hms hlow
        by_cases hlt2 : i < bs.length
        · obtain ⟨b1, o1, a1, c1, rfl, hbd⟩ := (HB.out.below HWi.out).cells i hlt2
          have htk : bs.take (i + 1) = bs.take i ++ [bs[i]] := List.take_succ_eq_append_getElem hlt2
          obtain ⟨⟨vn, ⟨x, l⟩⟩, hy⟩ : ∃ y, bs[i] = y := ⟨_, rfl⟩
          rw [hy] at hbd htk
          have HTK := hid htk
          have HBD := hid hbd
          have p0 := hbd.var
          dsimp only at p0
          have HGE := hid (rget_any pa ca as' vn wr (HA.out.below HWi.out) (by omega))
          have hwz := HWi.out.size
          clear hbd hy htk
          go_wp2_with fail
          clear p0
          refine HGE.out.mono ?_
          intro e w3 hend
          unfold GetEnd at hend
          obtain ⟨hb3, hend⟩ := hend
          rcases hend with ⟨h1, rfl⟩ | ⟨t, ta, tc, h1, _, rfl⟩
          · have bz := alloc_below0 w3 (.cells #[.string vn, .int .i64 0, .slice none 0 0] 27)
            have HB3 := hid (hb3.trans (bz.mono hb3.size))
            have HG1 := hid h1
            clear hb3 bz h1 HGE
            go_upto_region 15 with fail
            generalize w3.alloc (.cells #[.string vn, .int .i64 0, .slice none 0 0] 27) = V at HB3 ⊢
            have HC := hid (rclone_any x l a1 c1 V.drew ((HBD.out.tm.below HB3.out).below (drew_below V)))
            have bd := HBD.out.below HB3.out
            have q0 := bd.var; have q1 := bd.name; have q2 := bd.sym; have q3 := bd.list
            dsimp only at q0 q1 q2 q3
            have hj0 : (0 : Int) ≤ (i : Int) := by omega
            have hjn : (i : Int) < (bs.length : Int) := by omega
            clear bd
            go_region_with ((first
              | (go_at_call 36; refine Calls.mono HC.out ?_; rintro e w4 ⟨a', c', rfl, ho4, hb4⟩; have HO4 : Hid (OwnTm false (fun q => V.heap.size ≤ q) w4 x a' c' l) := hid ho4.own; have hb4' : Below V.heap.size V w4 := (drew_below V).trans hb4; have HB4 := hid (HB3.out.trans (hb4'.mono HB3.out.size)); have r0 := bd_cell hb4' _ _ q0; have HWI := hid (with_any w.heap.size ov D vn x l a' c' w4 (owns_below HLD.out.row HB4.out) (by omega)); clear ho4 hb4 hb4')
              | (go_at_call 35; refine Calls.mono HWI.out ?_; rintro e w5 ⟨v5, j5, rfl, hj5, hd5, hu5, ho5, hb5⟩; have HJ5 := hid hj5; have HD5 := hid hd5; have HU5 := hid hu5; have HO5 := hid ho5; have HB5 := hid hb5; clear hj5 hd5 hu5 ho5 hb5)
              | fail))
            all_goals
              go_wp2_with fail
              go_roundw
              case rel =>
                refine ⟨i + 1, _, ms ++ [(vn, ⟨x, l, a', c'⟩)], D.take j5 ++ [(vn, ⟨x, l, a', c'⟩)] ++ D.drop j5, by omega, rfl, by go_num, ⟨owns_base HO5.out (Nat.le_trans hwz HB4.out.size), fun k hk => ?_⟩, by rw [← List.append_assoc]; exact (HPER.out.append_right _).trans (with_perm D _ j5).symm, fun h => with_sd (HSD.out h) HD5.out HU5.out HJ5.out, by rw [HTK.out, List.filter_append, ← HMS.out, List.map_append]; simp [HG1.out, bkBn, Kv.tn], HWi.out.trans ((HB4.out.trans (HB5.out.mono HB4.out.size)).mono hwz)⟩
                have hvo : ∀ q, v5.ownBlock = some q → w4.heap.size ≤ q := fun q hq => (owns_cells HO5.out hq).1
                have hk2 : k ∈ D ∨ k = (vn, ⟨x, l, a', c'⟩) := by
                  rcases List.mem_append.1 hk with hk | hk
                  · rcases List.mem_append.1 hk with hk | hk
                    · exact .inl (List.mem_of_mem_take hk)
                    · exact .inr (List.mem_singleton.1 hk)
                  · exact .inl (List.mem_of_mem_drop hk)
                rcases hk2 with hk2 | rfl
                · have h5 := HLD.out.own k hk2
                  have h6 : OwnTm false (fun q => w.heap.size ≤ q ∧ some q ≠ v5.ownBlock) wr k.2.x k.2.a k.2.c k.2.l := h5.mono (fun q hq hp => ⟨hp.1, fun e => by have := hvo q e.symm; have := HB4.out.size; omega⟩)
                  exact (h6.below HB4.out).below HB5.out
                · have h6 : OwnTm false (fun q => w.heap.size ≤ q ∧ some q ≠ v5.ownBlock) w4 x a' c' l := HO4.out.mono (fun q hq hp => ⟨by have := HB3.out.size; omega, fun e => by have := hvo q e.symm; omega⟩)
                  exact h6.below HB5.out
              case measure => simp [intOf]; omega
          · have bz := alloc_below0 w3 (.cells #[.string t.1.1, .int .i64 t.1.2, .slice ta (lenF t.2) tc] 27)
            have HB3 := hid (hb3.trans (bz.mono hb3.size))
            have HG1 := hid h1
            clear hb3 bz h1 HGE
            go_wp2_with fail
            go_roundw
            case rel => exact ⟨i + 1, _, ms, D, by omega, rfl, by go_num, HLD.out.below HB3.out, HPER.out, HSD.out, by rw [HTK.out, List.filter_append, ← HMS.out]; simp [HG1.out], HWi.out.trans (HB3.out.mono hwz)⟩
            case measure => simp [intOf]; omega
        · have hil : i = bs.length := by omega
          subst hil
          have hms2 := HMS.out
          rw [List.take_of_length_le (Nat.le_refl _)] at hms2
          have HMS2 := hid hms2
          clear hms2 HMS
          go_wp2
          go_ret2
          exact ⟨HWi.out, .inr ⟨HLE2.out, ov, K, ms, D, rs, rfl, HRL.out.symm, HCAN.out, HK.out.symm, HMS2.out, HSD.out, HPER.out, HLD.out⟩⟩
end Go.Proofs.YtgidgmgpgfonnaaGreat
