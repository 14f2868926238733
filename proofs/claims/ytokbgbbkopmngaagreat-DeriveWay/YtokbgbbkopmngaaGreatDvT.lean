/- What Replace does. -/
import Derived.Test.YtokbgbbkopmngaaGreatDvS
namespace Go.Proofs.YtokbgbbkopmngaaGreat
open Go.RowKit Go.Deep

set_option maxRecDepth 100000 in
set_option maxHeartbeats 4000000 in
/-- Up to the end, where there is room. -/
theorem rep_end_room (g cap i n : Nat) (ks : List Kv) (va : Option Addr) (vc : Nat) (vs : List Kv) (w : World) (hR : RowV w g cap ks) (hV : SrcV w g va vc vs) (hij : i < n) (hn : n = ks.length) (hroom : i + vs.length ≤ cap) (hm : vs.length ≤ 1048576) (hks : ks.length ≤ 1048576) :
    Calls Tryz.prog 104 #[.slice (some ⟨g, 0, none⟩) n cap, .int .i64 i, .int .i64 n, .slice va vs.length vc] w (RepEnd w g (layK ks i n vs)) := by
  have hfit := hR.fits
  have hsm := hR.small
  have HS := hid hsm
  unfold maxLen at hsm
  obtain ⟨cur, hC, hct⟩ := hR.cur
  have hl := kvCells_len vs
  have hap : ∀ ty, (Builtin.append_ #[24, 24] ty #[.slice (some ⟨g, 0, none⟩) i cap, .slice va vs.length vc]).run Tryz.prog w = .ok (.slice (some ⟨g, 0, none⟩) (i + vs.length) cap) (w.setCells g (i * 3) (kvCells vs)) := fun ty =>
    run_appR w ty g cap i va vc vs hV hroom (fun j hj => hC.any (by omega))
  obtain ⟨W1, hW1⟩ : ∃ W1, w.setCells g (i * 3) (kvCells vs) = W1 := ⟨_, rfl⟩
  have hC1 : CurV W1 g cap (ovr cur (i * 3) (kvCells vs)) := by rw [← hW1]; exact hC.set (by omega)
  have hF1 : Fr (fun q => q = g) w W1 := by rw [← hW1]; exact setCells_tc _ _ _
  rw [hW1] at hap
  have hll : (layK ks i n vs).length = i + vs.length := by rw [layK_len (by omega) (by omega)]; omega
  have hpre : ∀ cur', CurV W1 g cap cur' → cur'.take ((i + vs.length) * 3) = (ovr cur (i * 3) (kvCells vs)).take ((i + vs.length) * 3) → cur'.take ((layK ks i n vs).length * 3) = kvCells (layK ks i n vs) := fun cur' _ h => by
    rw [hll, h, show (i + vs.length) * 3 = i * 3 + (kvCells vs).length by omega, ovr_end (by have := hC.len; omega)]
    unfold layK
    rw [List.drop_eq_nil_of_le (by omega), List.append_nil, kvCells_append, ← kvT, ← hct, List.take_take, Nat.min_eq_left (by omega)]
  have HC1 := hid hC1; have HF1 := hid hF1; have HP := hid hpre
  have hw1 : IntKind.i64.wrap ((i : Int) + vs.length) = (i : Int) + vs.length := by rw [IntKind.wrap_i64]; omega
  by_cases hlt : i + vs.length < n
  · have hcl : ∀ ty c, (Builtin.clear_ #[24] ty #[.slice (some ⟨g, (i + vs.length) * 3, none⟩) (n - (i + vs.length)) c]).run Tryz.prog W1 = .ok (.tuple #[]) (W1.setCells g ((i + vs.length) * 3) (zerosT (n - (i + vs.length)))) := fun ty c =>
      run_clearN W1 ty g _ _ c (by omega) (fun j hj => hC1.any (by omega))
    have HLL := hid hll
    have hb1 : ¬ ((i : Int) = (n : Int)) := by omega
    have hb2 : (i : Int) + vs.length < n := by omega
    have hb3 : ¬ cap = i + vs.length := by omega
    have hic : i ≤ cap := by omega
    have hin : i ≤ n := by omega
    have hnc : n ≤ cap := by omega
    have HZ := hid (zeros_len (n - (i + vs.length)))
    clear hC hct hl hC1 hF1 hpre hW1 hR hV hll hn hks
    go_enter Tryz.func104, Tryz.ntmps104
    go_wp2_with (first
      | (at_builtin; refine Lib.wpList_append_run _ rfl _ _ _ _ rfl _ _ rfl rfl _ _ (hap _) ?_)
      | fail)
    go_ret
    refine ⟨g, cap, by rw [HLL.out]; rfl, (HC1.out.set (o := (i + vs.length) * 3) (vs := zerosT (n - (i + vs.length))) (by rw [HZ.out]; omega)).rowV ?_ (by rw [HLL.out]; omega) HS.out, HF1.out.trans (setCells_tc _ _ _), .inl rfl⟩
    rw [HLL.out, ovr_lo (by omega) (by rw [HC1.out.len]; omega), ← HLL.out]
    exact HP.out _ HC1.out rfl
  · have HLL := hid hll
    have hb1 : ¬ ((i : Int) = (n : Int)) := by omega
    have hb2 : ¬ (i : Int) + vs.length < n := by omega
    have hic : i ≤ cap := by omega
    have hin : i ≤ n := by omega
    have hnc : n ≤ cap := by omega
    clear hC hct hl hC1 hF1 hpre hW1 hR hV hll hn hks
    go_enter Tryz.func104, Tryz.ntmps104
    go_wp2_with (first
      | (at_builtin; refine Lib.wpList_append_run _ rfl _ _ _ _ rfl _ _ rfl rfl _ _ (hap _) ?_)
      | fail)
    go_ret
    exact ⟨g, cap, by rw [HLL.out]; rfl, HC1.out.rowV (HP.out _ HC1.out rfl) (by rw [HLL.out]; omega) HS.out, HF1.out, .inl rfl⟩

set_option maxRecDepth 100000 in
set_option maxHeartbeats 4000000 in
/-- Up to the end, where there is no room. -/
theorem rep_end_grow (g cap i n : Nat) (ks : List Kv) (va : Option Addr) (vc : Nat) (vs : List Kv) (w : World) (hR : RowV w g cap ks) (hV : SrcV w g va vc vs) (hij : i < n) (hn : n = ks.length) (hroom : cap < i + vs.length) (hm : vs.length ≤ 1048576) (hks : ks.length ≤ 1048576) :
    Calls Tryz.prog 104 #[.slice (some ⟨g, 0, none⟩) n cap, .int .i64 i, .int .i64 n, .slice va vs.length vc] w (RepEnd w g (layK ks i n vs)) := by
  obtain ⟨i0, hi0, hz0, hz1, hz2⟩ := info_parts Tryz.info26
  have hfit := hR.fits
  have hsm := hR.small
  unfold maxLen at hsm
  have hll : (layK ks i n vs).length = i + vs.length := by rw [layK_len (by omega) (by omega)]; omega
  rcases hV with ⟨_, h0⟩ | ⟨vb, rfl, hne, hRv⟩
  · subst h0; simp at hroom; omega
  have htl : (kvCells (ks.take i)).length = i * 3 := by rw [kvCells_len, List.length_take]; omega
  obtain ⟨v', w', hap, hown, hgr⟩ := run_append_arg_grows (P := Tryz.prog) w 24 0 26 i0 _ 3 48 Tryz.underlying24 hi0 hz0 hz1 hz2 rfl (by decide) ⟨g, 0, none⟩ i cap (kvCells (ks.take i)) htl
    (fun j u hj => by
      rw [Addr.add_lit, Nat.zero_add]
      rw [← kvT, List.getElem?_take] at hj
      split at hj
      · exact hR.cells hj
      · cases hj) ⟨vb, 0, none⟩ vs.length vc (kvCells vs) (kvCells_len vs) (fun j u hj => by rw [Addr.add_lit, Nat.zero_add]; exact hRv.cells hj) hroom (by unfold maxLen; omega) (by omega)
  have hap' : ∀ ty, (Builtin.append_ #[24, 24] ty #[.slice (some ⟨g, 0, none⟩) i cap, .slice (some ⟨vb, 0, none⟩) vs.length vc]).run Tryz.prog w = .ok v' w' := fun ty => hap
  have hkl : kvCells (layK ks i n vs) = kvCells (ks.take i) ++ kvCells vs := by unfold layK; rw [List.drop_eq_nil_of_le (by omega), List.append_nil, kvCells_append]
  rw [← hkl, ← hll] at hown
  obtain ⟨c', g', rfl, hgb, hRR⟩ : ∃ c' g', v' = .slice (some ⟨g', 0, none⟩) (layK ks i n vs).length c' ∧ w.heap.size ≤ g' ∧ RowV w' g' c' (layK ks i n vs) := by
    rcases hown.2 with ⟨_, h2⟩ | ⟨g', cap', cur, h1, h2, h3, h4, h5, h6, h7⟩
    · omega
    · exact ⟨cap', g', h1, h2, ⟨⟨cur, h3, h6, h7⟩, h4, h5⟩⟩
  have HR := hid hRR; have HG := hid hgb; have HF := hid (tc_grown hgr); have HLL := hid hll
  have hb1 : ¬ ((i : Int) = (n : Int)) := by omega
  have hb2 : ¬ (((layK ks i n vs).length : Nat) : Int) < n := by omega
  have hic : i ≤ cap := by omega
  have hin : i ≤ n := by omega
  have hnc : n ≤ cap := by omega
  obtain ⟨M, hM⟩ : ∃ M, (layK ks i n vs).length = M := ⟨_, rfl⟩
  rw [hM] at hap' hb2
  have HM := hid hM
  clear hap hown hgr hRR hgb hR hRv hll htl hkl hn hks hM hfit
  go_enter Tryz.func104, Tryz.ntmps104
  go_wp2_with (first
    | (at_builtin; refine Lib.wpList_append_run _ rfl _ _ _ _ rfl _ _ rfl rfl _ _ (hap' _) ?_)
    | fail)
  go_ret
  exact ⟨g', c', by rw [HM.out]; rfl, HR.out, HF.out.mono (fun q hq => by cases hq), .inr HG.out⟩

set_option maxRecDepth 100000 in
set_option maxHeartbeats 4000000 in
/-- Within, what is put in being no longer than what goes. -/
theorem rep_less (g cap i j n : Nat) (ks : List Kv) (va : Option Addr) (vc : Nat) (vs : List Kv) (w : World) (hR : RowV w g cap ks) (hV : SrcV w g va vc vs) (hij : i < j) (hj : j < n) (hn : n = ks.length) (hm : i + vs.length ≤ j) (hks : ks.length ≤ 1048576) :
    Calls Tryz.prog 104 #[.slice (some ⟨g, 0, none⟩) n cap, .int .i64 i, .int .i64 j, .slice va vs.length vc] w (RepEnd w g (layK ks i j vs)) := by
  have mixed : Tryz.prog.follows .mixedOrders = true := by kernel_rfl
  have hfit := hR.fits
  have hsm := hR.small
  have HS := hid hsm
  unfold maxLen at hsm
  obtain ⟨cur, hC, hct⟩ := hR.cur
  have hl := kvCells_len vs
  have hdl : (kvCells (ks.drop j)).length = (n - j) * 3 := by rw [kvCells_len, List.length_drop, hn]
  obtain ⟨tot, htot⟩ : ∃ tot, tot = i + vs.length + (n - j) := ⟨_, rfl⟩
  have hll : (layK ks i j vs).length = tot := by rw [layK_len (by omega) (by omega)]; omega
  have hcp1 : ∀ ty dc, (Builtin.copy_ #[24, 24] ty #[.slice (some ⟨g, i * 3, none⟩) (tot - i) dc, .slice va vs.length vc]).run Tryz.prog w.drew = .ok (goInt vs.length) (w.drew.setCells g (i * 3) (kvCells vs)) := fun ty dc =>
    run_copyV w.drew ty g (i * 3) (tot - i) dc va vc vs (hV.keep fun _ _ _ => rfl) (by omega) (fun k hk => hC.any (by omega))
  obtain ⟨W1, hW1⟩ : ∃ W1, w.drew.setCells g (i * 3) (kvCells vs) = W1 := ⟨_, rfl⟩
  have hC0 : CurV w.drew g cap cur := ⟨hC.row, hC.len⟩
  have hC1 : CurV W1 g cap (ovr cur (i * 3) (kvCells vs)) := by rw [← hW1]; exact hC0.set (by omega)
  have hF1 : Fr (fun q => q = g) w W1 := by rw [← hW1]; exact Fr.trans (y := w.drew) ⟨(Below.refl _ w).drew, fun _ _ _ => rfl⟩ (setCells_tc _ _ _)
  rw [hW1] at hcp1
  have hcell : ∀ k v, (kvCells (ks.drop j))[k]? = some v → W1.cell? ⟨g, j * 3 + k, none⟩ = some v := fun k v hk => by
    have hkl : k < (n - j) * 3 := by rw [← hdl]; exact (List.getElem?_eq_some_iff.1 hk).1
    refine cell_box hC1.row ?_
    rw [List.getElem?_toArray, ← List.getElem?_drop, ovr_hi (by omega) (by have := hC.len; omega), List.getElem?_drop]
    rw [← kvD, List.getElem?_drop, ← hct, List.getElem?_take] at hk
    rw [if_pos (by omega)] at hk
    exact hk
  have hcp2 : ∀ ty dc sc, (Builtin.copy_ #[24, 24] ty #[.slice (some ⟨g, (i + vs.length) * 3, none⟩) (tot - (i + vs.length)) dc, .slice (some ⟨g, j * 3, none⟩) (n - j) sc]).run Tryz.prog W1.drew = .ok (goInt (Nat.min (n - j) (tot - (i + vs.length)))) (W1.drew.setCells g ((i + vs.length) * 3) (kvCells (ks.drop j))) := fun ty dc sc =>
    run_copyT W1.drew ty g ((i + vs.length) * 3) (tot - (i + vs.length)) dc ⟨g, j * 3, none⟩ (n - j) sc (kvCells (ks.drop j)) (by rw [hdl]; simp only [Nat.min_def]; split <;> omega)
      (fun k v hk => by rw [Addr.add_lit]; exact hcell k v hk) (fun k hk => (hC1.any (by rw [hdl] at hk; omega)).1) (fun k hk => (hC1.any (by rw [hdl] at hk; omega)).2) (kvCells_one _)
  obtain ⟨W2, hW2⟩ : ∃ W2, W1.drew.setCells g ((i + vs.length) * 3) (kvCells (ks.drop j)) = W2 := ⟨_, rfl⟩
  have hC1' : CurV W1.drew g cap (ovr cur (i * 3) (kvCells vs)) := ⟨hC1.row, hC1.len⟩
  have hC2 : CurV W2 g cap (ovr (ovr cur (i * 3) (kvCells vs)) ((i + vs.length) * 3) (kvCells (ks.drop j))) := by rw [← hW2]; exact hC1'.set (by omega)
  have hF2 : Fr (fun q => q = g) w W2 := by rw [← hW2]; exact hF1.trans (Fr.trans (y := W1.drew) ⟨(Below.refl _ W1).drew, fun _ _ _ => rfl⟩ (setCells_tc _ _ _))
  rw [hW2] at hcp2
  have hpre : ((ovr (ovr cur (i * 3) (kvCells vs)) ((i + vs.length) * 3) (kvCells (ks.drop j)))).take (tot * 3) = kvCells (layK ks i j vs) := by
    rw [show tot * 3 = (i + vs.length) * 3 + (kvCells (ks.drop j)).length by omega, ovr_end (by have := hC1.len; omega), show (i + vs.length) * 3 = i * 3 + (kvCells vs).length by omega, ovr_end (by have := hC.len; omega)]
    unfold layK
    rw [kvCells_append, kvCells_append, List.append_assoc, ← kvT, ← hct, List.take_take, Nat.min_eq_left (by omega)]
  have HC2 := hid hC2; have HF2 := hid hF2; have HP := hid hpre; have HLL := hid hll
  have hw1 : IntKind.i64.wrap ((i : Int) + vs.length) = (i : Int) + vs.length := by rw [IntKind.wrap_i64]; omega
  have hw2 : IntKind.i64.wrap ((i : Int) + vs.length + ((n - j : Nat) : Int)) = ((tot : Nat) : Int) := by rw [IntKind.wrap_i64]; omega
  have hb0 : ¬ ((i : Int) = (j : Int)) := by omega
  have hb1 : ¬ ((j : Int) = (n : Int)) := by omega
  have hb2 : (i : Int) + vs.length ≤ j := by omega
  have hb3 : ¬ cap = i + vs.length := by omega
  have hb4 : ¬ cap = i := by omega
  have hb5 : ¬ cap = j := by omega
  have hb6 : ¬ (cap : Int) < (tot : Int) := by omega
  have hb7 : tot ≤ cap := by omega
  have hb8 : (i : Int) ≤ (tot : Int) := by omega
  have hb9 : (0 : Int) ≤ (i : Int) + vs.length := by omega
  have hb10 : (i : Int) + vs.length ≤ (tot : Int) := by omega
  have htn : ((i : Int) + vs.length).toNat = i + vs.length := by omega
  have hic : i ≤ cap := by omega
  have hin : i ≤ n := by omega
  have hjn : j ≤ n := by omega
  have hnc : n ≤ cap := by omega
  have hijl : i ≤ j := by omega
  have hjc : j ≤ cap := by omega
  have hit : i ≤ tot := by omega
  have htn2 : tot ≤ n := by omega
  have HT := hid htot
  by_cases hlt : tot < n
  · have hcl : ∀ ty c, (Builtin.clear_ #[24] ty #[.slice (some ⟨g, tot * 3, none⟩) (n - tot) c]).run Tryz.prog W2 = .ok (.tuple #[]) (W2.setCells g (tot * 3) (zerosT (n - tot))) := fun ty c =>
      run_clearN W2 ty g _ _ c (by omega) (fun k hk => hC2.any (by omega))
    have hb11 : ¬ cap = tot := by omega
    have HZ := hid (zeros_len (n - tot))
    clear hC hct hl hC1 hC0 hC1' hF1 hpre hW1 hW2 hR hV hll hn hks hdl hcell hC2 hF2 htot
    go_enter Tryz.func104, Tryz.ntmps104
    go_wp2_with fail
    go_region
    go_wp2_with (first
      | (at_builtin; refine wpList_copyT _ rfl _ _ rfl _ _ rfl rfl (hcp1 _ _) ?_)
      | fail)
    go_region_law_o (refine step_copyT rfl _ _ rfl _ _ (by simp [Act.eval, Act.put]) (by simp [Act.eval, Act.put]) (hcp2 _ _ _) ?_)
    go_wp2
    go_ret
    refine ⟨g, cap, by rw [HLL.out]; rfl, (HC2.out.set (o := tot * 3) (vs := zerosT (n - tot)) (by rw [HZ.out]; omega)).rowV ?_ (by rw [HLL.out]; omega) HS.out, HF2.out.trans (setCells_tc _ _ _), .inl rfl⟩
    rw [HLL.out, ovr_lo (by omega) (by rw [HC2.out.len]; omega)]
    exact HP.out
  · have hcl : ∀ ty a c, (Builtin.clear_ #[24] ty #[.slice a 0 c]).run Tryz.prog W2 = .ok (.tuple #[]) W2 := fun ty a c => run_clear0 W2 ty a c
    have hbt : n - tot = 0 := by omega
    clear hC hct hl hC1 hC0 hC1' hF1 hpre hW1 hW2 hR hV hll hn hks hdl hcell hC2 hF2 htot hlt
    by_cases hb11 : cap = tot
    · subst hb11
      go_enter Tryz.func104, Tryz.ntmps104
      go_wp2_with fail
      go_region
      go_wp2_with (first
        | (at_builtin; refine wpList_copyT _ rfl _ _ rfl _ _ rfl rfl (hcp1 _ _) ?_)
        | fail)
      go_region_law_o (refine step_copyT rfl _ _ rfl _ _ (by simp [Act.eval, Act.put]) (by simp [Act.eval, Act.put]) (hcp2 _ _ _) ?_)
      go_wp2
      go_ret
      exact ⟨g, cap, by rw [HLL.out]; rfl, HC2.out.rowV (by rw [HLL.out]; exact HP.out) (by rw [HLL.out]; omega) HS.out, HF2.out, .inl rfl⟩
    · go_enter Tryz.func104, Tryz.ntmps104
      go_wp2_with fail
      go_region
      go_wp2_with (first
        | (at_builtin; refine wpList_copyT _ rfl _ _ rfl _ _ rfl rfl (hcp1 _ _) ?_)
        | fail)
      go_region_law_o (refine step_copyT rfl _ _ rfl _ _ (by simp [Act.eval, Act.put]) (by simp [Act.eval, Act.put]) (hcp2 _ _ _) ?_)
      go_wp2
      go_ret
      exact ⟨g, cap, by rw [HLL.out]; rfl, HC2.out.rowV (by rw [HLL.out]; exact HP.out) (by rw [HLL.out]; omega) HS.out, HF2.out, .inl rfl⟩
end Go.Proofs.YtokbgbbkopmngaaGreat
