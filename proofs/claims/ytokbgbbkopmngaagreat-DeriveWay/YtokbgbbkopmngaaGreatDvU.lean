/- What Replace does, where it grows. -/
import Derived.Test.YtokbgbbkopmngaaGreatDvT
namespace Go.Proofs.YtokbgbbkopmngaaGreat
open Go.RowKit Go.Deep

set_option maxRecDepth 100000 in
set_option maxHeartbeats 4000000 in
/-- Within, what is put in being longer than what goes, where there is room. -/
theorem rep_more (g cap i j n : Nat) (ks : List Kv) (va : Option Addr) (vc : Nat) (vs : List Kv) (w : World) (hR : RowV w g cap ks) (hV : SrcV w g va vc vs) (hij : i < j) (hj : j < n) (hn : n = ks.length) (hm : j < i + vs.length) (hroom : i + vs.length + (n - j) ≤ cap) (hks : ks.length ≤ 1048576) (hvs : vs.length ≤ 1048576) :
    Calls Tryz.prog 104 #[.slice (some ⟨g, 0, none⟩) n cap, .int .i64 i, .int .i64 j, .slice va vs.length vc] w (RepEnd w g (layK ks i j vs)) := by
  have mixed : Tryz.prog.follows .mixedOrders = true := by kernel_rfl
  have hfit := hR.fits
  have hsm := hR.small
  have HS := hid hsm
  unfold maxLen at hsm
  obtain ⟨cur, hC, hct⟩ := hR.cur
  have hl := kvCells_len vs
  have hdl : (kvCells (ks.drop j)).length = (n - j) * 3 := by rw [kvCells_len, List.length_drop, hn]
  obtain ⟨tot, htot⟩ : ∃ tot, tot = i + vs.length + (n - j) := ⟨_, rfl⟩
  have hll : (layK ks i j vs).length = tot := by rw [layK_len (by omega) (by omega)]; omega
  have hsz : ∀ w : World, (Go.sizeOf 26).run Tryz.prog w = .ok 3 w := fun w => by kernel_rfl
  have hV0 := hV
  rcases hV0 with ⟨_, h0⟩ | ⟨vb, rfl, hne, hRv⟩
  · subst h0; simp at hm; omega
  obtain ⟨curv, hcv1, hcv2, _⟩ := hRv.row
  have hvf := hRv.fits
  have hov : ∀ lb cb, (callFunc 115 #[.slice (some ⟨g, (i + vs.length) * 3, none⟩) lb cb, .slice (some ⟨vb, 0, none⟩) vs.length vc]).run Tryz.prog w.drew = .ok (.value (.bool false)) w.drew := fun lb cb => by
    rw [run_callFunc_extern Tryz.func115 (by kernel_rfl) (by kernel_rfl) (by kernel_rfl) (e := Extern.SlicesOverlaps.overlaps #[24, 24] #[4]) (by kernel_rfl),
      Lib.run_overlaps_apart w.drew 24 4 26 Tryz.underlying24 3 hsz ⟨g, (i + vs.length) * 3, none⟩ ⟨vb, 0, none⟩ lb cb vs.length vc (fun e => hne e.symm) 26 26 (cap * 3) (vc * 3) (by have h1 : w.drew.heap[g]? = _ := hC.row; have h2 := hC.len; simp [World.shape?, h1, h2]) (by have h1 : w.drew.heap[vb]? = _ := hcv1; simp [World.shape?, h1, hcv2]) (by omega) (by have h1 : w.drew.heap[g]? = _ := hC.row; simp [World.frozen?, h1]) (by have h1 : w.drew.heap[g]? = _ := hC.row; simp [World.frozen?, h1])]
    rfl
  have hC0 : CurV w.drew.drew g cap cur := ⟨hC.row, hC.len⟩
  have hcp1 : ∀ ty dc sc, (Builtin.copy_ #[24, 24] ty #[.slice (some ⟨g, (i + vs.length) * 3, none⟩) (tot - (i + vs.length)) dc, .slice (some ⟨g, j * 3, none⟩) (n - j) sc]).run Tryz.prog w.drew.drew = .ok (goInt (Nat.min (n - j) (tot - (i + vs.length)))) (w.drew.drew.setCells g ((i + vs.length) * 3) (kvCells (ks.drop j))) := fun ty dc sc =>
    run_copyT w.drew.drew ty g ((i + vs.length) * 3) (tot - (i + vs.length)) dc ⟨g, j * 3, none⟩ (n - j) sc (kvCells (ks.drop j)) (by rw [hdl]; simp only [Nat.min_def]; split <;> omega)
      (fun k v hk => by
        rw [Addr.add_lit]
        rw [← kvD, List.getElem?_drop] at hk
        exact hR.cells hk) (fun k hk => (hC0.any (by rw [hdl] at hk; omega)).1) (fun k hk => (hC0.any (by rw [hdl] at hk; omega)).2) (kvCells_one _)
  obtain ⟨W1, hW1⟩ : ∃ W1, w.drew.drew.setCells g ((i + vs.length) * 3) (kvCells (ks.drop j)) = W1 := ⟨_, rfl⟩
  have hC1 : CurV W1 g cap (ovr cur ((i + vs.length) * 3) (kvCells (ks.drop j))) := by rw [← hW1]; exact hC0.set (by omega)
  have hF1 : Fr (fun q => q = g) w W1 := by rw [← hW1]; exact Fr.trans (y := w.drew.drew) ⟨((Below.refl _ w).drew).drew, fun _ _ _ => rfl⟩ (setCells_tc _ _ _)
  rw [hW1] at hcp1
  have hV1 : SrcV W1 g (some ⟨vb, 0, none⟩) vc vs := hV.keep (fun q hq hlt => hF1.same q hlt hq)
  have hcp2 : ∀ ty dc, (Builtin.copy_ #[24, 24] ty #[.slice (some ⟨g, i * 3, none⟩) (tot - i) dc, .slice (some ⟨vb, 0, none⟩) vs.length vc]).run Tryz.prog W1 = .ok (goInt vs.length) (W1.setCells g (i * 3) (kvCells vs)) := fun ty dc =>
    run_copyV W1 ty g (i * 3) (tot - i) dc _ vc vs hV1 (by omega) (fun k hk => hC1.any (by omega))
  obtain ⟨W2, hW2⟩ : ∃ W2, W1.setCells g (i * 3) (kvCells vs) = W2 := ⟨_, rfl⟩
  have hC2 : CurV W2 g cap (ovr (ovr cur ((i + vs.length) * 3) (kvCells (ks.drop j))) (i * 3) (kvCells vs)) := by rw [← hW2]; exact hC1.set (by omega)
  have hF2 : Fr (fun q => q = g) w W2 := by rw [← hW2]; exact hF1.trans (setCells_tc _ _ _)
  rw [hW2] at hcp2
  have hpre : (ovr (ovr cur ((i + vs.length) * 3) (kvCells (ks.drop j))) (i * 3) (kvCells vs)).take (tot * 3) = kvCells (layK ks i j vs) := by
    have h0 := hC.len
    have h1 := hC1.len
    unfold layK
    rw [kvCells_append, kvCells_append, ← kvT, ← hct, List.take_take, Nat.min_eq_left (by omega)]
    have e1 : (ovr cur ((i + vs.length) * 3) (kvCells (ks.drop j))).take (i * 3) = cur.take (i * 3) := ovr_lo (by omega) (by omega)
    have e2 : (ovr cur ((i + vs.length) * 3) (kvCells (ks.drop j))).drop (i * 3 + (kvCells vs).length) = kvCells (ks.drop j) ++ cur.drop ((i + vs.length) * 3 + (kvCells (ks.drop j)).length) := by
      rw [hl, show i * 3 + vs.length * 3 = (i + vs.length) * 3 by omega]
      unfold ovr
      rw [List.append_assoc, List.drop_left' (by rw [List.length_take]; omega)]
    obtain ⟨O, hO⟩ : ∃ O, ovr cur ((i + vs.length) * 3) (kvCells (ks.drop j)) = O := ⟨_, rfl⟩
    rw [hO] at e1 e2 ⊢
    unfold ovr
    rw [e1, e2, ← List.append_assoc, List.take_append_of_le_length (by simp only [List.length_append, List.length_take, hl, hdl]; omega), List.take_of_length_le (by simp only [List.length_append, List.length_take, hl, hdl]; omega), List.append_assoc]
  have HC2 := hid hC2; have HF2 := hid hF2; have HP := hid hpre; have HLL := hid hll
  have hw1 : IntKind.i64.wrap ((i : Int) + vs.length) = (i : Int) + vs.length := by rw [IntKind.wrap_i64]; omega
  have hw2 : IntKind.i64.wrap ((i : Int) + vs.length + ((n - j : Nat) : Int)) = ((tot : Nat) : Int) := by rw [IntKind.wrap_i64]; omega
  have hb0 : ¬ ((i : Int) = (j : Int)) := by omega
  have hb1 : ¬ ((j : Int) = (n : Int)) := by omega
  have hb2 : ¬ (i : Int) + vs.length ≤ j := by omega
  have hb3 : ¬ cap = i + vs.length := by omega
  have hb4 : ¬ cap = i := by omega
  have hb5 : ¬ cap = j := by omega
  have hb6 : ¬ (cap : Int) < (tot : Int) := by omega
  have hb7 : tot ≤ cap := by omega
  have hb8 : (i : Int) ≤ (tot : Int) := by omega
  have hb9 : (0 : Int) ≤ (i : Int) + vs.length := by omega
  have hb10 : (i : Int) + vs.length ≤ (tot : Int) := by omega
  have htn : ((i : Int) + vs.length).toNat = i + vs.length := by omega
  have hic : i ≤ cap := by omega
  have hin : i ≤ n := by omega
  have hjn : j ≤ n := by omega
  have hnc : n ≤ cap := by omega
  have hijl : i ≤ j := by omega
  have hjc : j ≤ cap := by omega
  have hit : i ≤ tot := by omega
  clear hC hct hl hC1 hC0 hF1 hpre hW1 hW2 hR hV hV1 hll hn hks hdl hC2 hF2 htot hcv1 hcv2 hRv hsz hvf
  go_enter Tryz.func104, Tryz.ntmps104
  go_wp2_with fail
  go_region
  go_wp2_with (simp only [hov])
  go_region_law_o (refine step_copyT rfl _ _ rfl _ _ (by simp [Act.eval, Act.put]) (by simp [Act.eval, Act.put]) (hcp1 _ _ _) ?_)
  go_wp2_with (first
    | (at_builtin; refine wpList_copyT _ rfl _ _ rfl _ _ rfl rfl (hcp2 _ _) ?_)
    | fail)
  go_ret
  exact ⟨g, cap, by rw [HLL.out]; rfl, HC2.out.rowV (by rw [HLL.out]; exact HP.out) (by rw [HLL.out]; omega) HS.out, HF2.out, .inl rfl⟩

set_option maxRecDepth 100000 in
set_option maxHeartbeats 8000000 in
/-- Within, where there is no room. -/
theorem rep_grow (g cap i j n : Nat) (ks : List Kv) (va : Option Addr) (vc : Nat) (vs : List Kv) (w : World) (hR : RowV w g cap ks) (hV : SrcV w g va vc vs) (hij : i < j) (hj : j < n) (hn : n = ks.length) (hroom : cap < i + vs.length + (n - j)) (hks : ks.length ≤ 1048576) (hvs : vs.length ≤ 1048576) :
    Calls Tryz.prog 104 #[.slice (some ⟨g, 0, none⟩) n cap, .int .i64 i, .int .i64 j, .slice va vs.length vc] w (RepEnd w g (layK ks i j vs)) := by
  obtain ⟨i0, hi0, hz0, hz1, hz2⟩ := info_parts Tryz.info26
  have mixed : Tryz.prog.follows .mixedOrders = true := by kernel_rfl
  have hfit := hR.fits
  have hsm := hR.small
  unfold maxLen at hsm
  have hgw := hR.lt
  have hl := kvCells_len vs
  have hdl : (kvCells (ks.drop j)).length = (n - j) * 3 := by rw [kvCells_len, List.length_drop, hn]
  obtain ⟨tot, htot⟩ : ∃ tot, tot = i + vs.length + (n - j) := ⟨_, rfl⟩
  have hll : (layK ks i j vs).length = tot := by rw [layK_len (by omega) (by omega)]; omega
  have hik : i + (tot - i) = tot := by omega
  have htl : (kvCells (ks.take i)).length = i * 3 := by rw [kvCells_len, List.length_take]; omega
  have hold : (Builtin.firstCells i0.size i (.slice (some ⟨g, 0, none⟩) i cap)).run Tryz.prog w.drew.drew = .ok (kvCells (ks.take i)).toArray w.drew.drew := by
    rw [hz1]
    exact run_firstCells_some w.drew.drew 3 i ⟨g, 0, none⟩ i cap (kvCells (ks.take i)) htl (fun q v hq => by
      rw [Addr.add_lit, Nat.zero_add]
      rw [← kvT, List.getElem?_take] at hq
      split at hq
      · exact hR.cells hq
      · cases hq)
  have hkk : (tot : Int) - (i : Int) = ((tot - i : Nat) : Int) := by omega
  have hrz : ∀ ty, (Builtin.append_ #[24, 3] ty #[.slice (some ⟨g, 0, none⟩) i cap, .int .i64 ((tot : Int) - (i : Int))]).run Tryz.prog w.drew =
      .ok (.slice (some ⟨w.heap.size, 0, none⟩) tot (grownCap w.drew tot cap 26)) (w.drew.drew.alloc (.cells ((kvCells (ks.take i)).toArray ++ Builtin.zeroCells (Value.agg #[.string ⟨#[]⟩, .int .i64 0, .slice none 0 0]).cells (tot - i) ++ Builtin.zeroCells (Value.agg #[.string ⟨#[]⟩, .int .i64 0, .slice none 0 0]).cells (grownCap w.drew tot cap 26 - tot)) 26)) := fun ty => by
    have h := Lib.run_append_grow_zeros w.drew 24 3 ty 26 i0 _ .i64 .i64 Tryz.underlying24 Tryz.underlying3 hi0 hz0 (some ⟨g, 0, none⟩) i cap (kvCells (ks.take i)) hold (tot - i) (by omega) (by omega) (by omega) (by omega) (by rw [hz2]; omega) (by rw [hz2, hik]; exact growslice_fits (by omega) (by omega))
    rw [hik] at h
    rw [hkk]
    exact h
  obtain ⟨G, hG⟩ : ∃ G, G = grownCap w.drew tot cap 26 := ⟨_, rfl⟩
  have hGn : tot ≤ G := by rw [hG]; exact grownCap_ge w.drew _ _ _
  have hG63 : G ≤ maxLen := by rw [hG]; exact grownCap_le_maxLen w.drew tot cap 26 (by unfold maxLen; omega)
  obtain ⟨ROW, hROW⟩ : ∃ ROW : Array Value, ROW = (kvCells (ks.take i)).toArray ++ Builtin.zeroCells (Value.agg #[.string ⟨#[]⟩, .int .i64 0, .slice none 0 0]).cells (tot - i) ++ Builtin.zeroCells (Value.agg #[.string ⟨#[]⟩, .int .i64 0, .slice none 0 0]).cells (G - tot) := ⟨_, rfl⟩
  rw [← hG, ← hROW] at hrz
  have hRl : ROW.size = G * 3 := by
    rw [hROW]
    simp [Builtin.zeroCells, Value.cells, htl]
    omega
  have hRt : ROW.toList.take (i * 3) = kvCells (ks.take i) := by
    rw [hROW]
    simp only [Array.toList_append]
    rw [List.append_assoc, List.take_left' (by simpa using htl)]
  obtain ⟨WA, hWA⟩ : ∃ WA, w.drew.drew.alloc (.cells ROW 26) = WA := ⟨_, rfl⟩
  have hbA : Below w.heap.size w WA := by rw [← hWA]; exact (((Below.refl _ w).drew).drew).alloc (Nat.le_refl _) _
  have hCA : CurV WA w.heap.size G ROW.toList := by
    rw [← hWA]
    exact ⟨World.alloc_heap_new w.drew.drew _, hRl⟩
  rw [hWA] at hrz
  have hVA : SrcV WA w.heap.size va vc vs := by
    rcases hV with h | ⟨vb, rfl, hne, hRv⟩
    · exact .inl h
    · exact .inr ⟨vb, rfl, by have := hRv.lt; omega, hRv.keep (hbA.block vb hRv.lt)⟩
  have hcp1 : ∀ ty dc, (Builtin.copy_ #[24, 24] ty #[.slice (some ⟨w.heap.size, i * 3, none⟩) (tot - i) dc, .slice va vs.length vc]).run Tryz.prog WA = .ok (goInt vs.length) (WA.setCells w.heap.size (i * 3) (kvCells vs)) := fun ty dc =>
    run_copyV WA ty w.heap.size (i * 3) (tot - i) dc va vc vs hVA (by omega) (fun k hk => hCA.any (by omega))
  obtain ⟨W1, hW1⟩ : ∃ W1, WA.setCells w.heap.size (i * 3) (kvCells vs) = W1 := ⟨_, rfl⟩
  have hC1 : CurV W1 w.heap.size G (ovr ROW.toList (i * 3) (kvCells vs)) := by rw [← hW1]; exact hCA.set (by omega)
  have hF1 : Fr (fun q => q = w.heap.size) WA W1 := by rw [← hW1]; exact setCells_tc _ _ _
  rw [hW1] at hcp1
  have hgr : RowV W1.drew g cap ks := hR.keep (((hF1.same g (Nat.lt_of_lt_of_le hgw hbA.size) (by omega)).trans (hbA.block g hgw)))
  have hC1' : CurV W1.drew w.heap.size G (ovr ROW.toList (i * 3) (kvCells vs)) := ⟨hC1.row, hC1.len⟩
  have hcp2 : ∀ ty dc sc, (Builtin.copy_ #[24, 24] ty #[.slice (some ⟨w.heap.size, (i + vs.length) * 3, none⟩) (tot - (i + vs.length)) dc, .slice (some ⟨g, j * 3, none⟩) (n - j) sc]).run Tryz.prog W1.drew = .ok (goInt (Nat.min (n - j) (tot - (i + vs.length)))) (W1.drew.setCells w.heap.size ((i + vs.length) * 3) (kvCells (ks.drop j))) := fun ty dc sc =>
    run_copyT W1.drew ty w.heap.size ((i + vs.length) * 3) (tot - (i + vs.length)) dc ⟨g, j * 3, none⟩ (n - j) sc (kvCells (ks.drop j)) (by rw [hdl]; simp only [Nat.min_def]; split <;> omega)
      (fun k v hk => by
        rw [Addr.add_lit]
        rw [← kvD, List.getElem?_drop] at hk
        exact hgr.cells hk) (fun k hk => (hC1'.any (by rw [hdl] at hk; omega)).1) (fun k hk => (hC1'.any (by rw [hdl] at hk; omega)).2) (kvCells_one _)
  obtain ⟨W2, hW2⟩ : ∃ W2, W1.drew.setCells w.heap.size ((i + vs.length) * 3) (kvCells (ks.drop j)) = W2 := ⟨_, rfl⟩
  have hC2 : CurV W2 w.heap.size G (ovr (ovr ROW.toList (i * 3) (kvCells vs)) ((i + vs.length) * 3) (kvCells (ks.drop j))) := by rw [← hW2]; exact hC1'.set (by omega)
  have hF2 : Fr (fun q => q = w.heap.size) WA W2 := by rw [← hW2]; exact hF1.trans (Fr.trans (y := W1.drew) ⟨(Below.refl _ W1).drew, fun _ _ _ => rfl⟩ (setCells_tc _ _ _))
  have hFF : Fr (fun q => q = g) w W2 := Fr.of_below (hbA.trans (hF2.below (fun k hk => by omega) hbA.size))
  rw [hW2] at hcp2
  have hpre : (ovr (ovr ROW.toList (i * 3) (kvCells vs)) ((i + vs.length) * 3) (kvCells (ks.drop j))).take (tot * 3) = kvCells (layK ks i j vs) := by
    have h0 := hCA.len
    rw [show tot * 3 = (i + vs.length) * 3 + (kvCells (ks.drop j)).length by omega, ovr_end (by have := hC1.len; omega), show (i + vs.length) * 3 = i * 3 + (kvCells vs).length by omega, ovr_end (by omega), hRt]
    unfold layK
    rw [kvCells_append, kvCells_append, List.append_assoc]
  have HC2 := hid hC2; have HF2 := hid hFF; have HP := hid hpre; have HLL := hid hll; have HGM := hid hG63
  unfold maxLen at hG63
  have hw1 : IntKind.i64.wrap ((i : Int) + vs.length) = (i : Int) + vs.length := by rw [IntKind.wrap_i64]; omega
  have hw2 : IntKind.i64.wrap ((i : Int) + vs.length + ((n - j : Nat) : Int)) = ((tot : Nat) : Int) := by rw [IntKind.wrap_i64]; omega
  have hw3 : IntKind.i64.wrap ((tot : Int) - (i : Int)) = (tot : Int) - (i : Int) := by rw [IntKind.wrap_i64]; omega
  have hb0 : ¬ ((i : Int) = (j : Int)) := by omega
  have hb1 : ¬ ((j : Int) = (n : Int)) := by omega
  have hb3 : ¬ G = i + vs.length := by omega
  have hb4 : ¬ cap = i := by omega
  have hb4' : ¬ G = i := by omega
  have hb5 : ¬ cap = j := by omega
  have hb6 : (cap : Int) < (tot : Int) := by omega
  have hb8 : (i : Int) ≤ (tot : Int) := by omega
  have hb9 : (0 : Int) ≤ (i : Int) + vs.length := by omega
  have hb10 : (i : Int) + vs.length ≤ (tot : Int) := by omega
  have htn : ((i : Int) + vs.length).toNat = i + vs.length := by omega
  have hic : i ≤ cap := by omega
  have hin : i ≤ n := by omega
  have hjn : j ≤ n := by omega
  have hnc : n ≤ cap := by omega
  have hijl : i ≤ j := by omega
  have hjc : j ≤ cap := by omega
  have hit : i ≤ tot := by omega
  clear hl hCA hC1 hC1' hF1 hF2 hpre hW1 hW2 hR hV hVA hll hn hks hdl hC2 hFF htot hbA hWA hROW hRt hRl hG hold htl hik hkk hgr
  go_enter Tryz.func104, Tryz.ntmps104
  go_wp2_with fail
  go_region
  go_wp2_with (first
    | (at_builtin; refine Lib.wpList_append_run _ rfl _ _ _ _ rfl _ _ rfl rfl _ _ (hrz _) ?_)
    | (at_builtin; refine wpList_copyT _ rfl _ _ rfl _ _ rfl rfl (hcp1 _ _) ?_)
    | fail)
  go_region_law_o (refine step_copyT rfl _ _ rfl _ _ (by simp [Act.eval, Act.put]) (by simp [Act.eval, Act.put]) (hcp2 _ _ _) ?_)
  go_wp2
  go_ret
  exact ⟨w.heap.size, G, by rw [HLL.out]; rfl, HC2.out.rowV (by rw [HLL.out]; exact HP.out) (by rw [HLL.out]; omega) HGM.out, HF2.out, .inr (Nat.le_refl _)⟩

/-- Replace: some terms go, others come. -/
theorem replace_any (g cap i j : Nat) (ks : List Kv) (va : Option Addr) (vc : Nat) (vs : List Kv) (w : World) (hR : RowV w g cap ks) (hV : SrcV w g va vc vs) (hij : i < j) (hj : j ≤ ks.length) (hks : ks.length ≤ 1048576) (hvs : vs.length ≤ 1048576) :
    Calls Tryz.prog 104 #[.slice (some ⟨g, 0, none⟩) ks.length cap, .int .i64 i, .int .i64 j, .slice va vs.length vc] w (RepEnd w g (layK ks i j vs)) := by
  by_cases h1 : j = ks.length
  · by_cases h2 : i + vs.length ≤ cap
    · rw [h1]; exact rep_end_room g cap i ks.length ks va vc vs w hR hV (by omega) rfl h2 hvs hks
    · rw [h1]; exact rep_end_grow g cap i ks.length ks va vc vs w hR hV (by omega) rfl (by omega) hvs hks
  · by_cases h2 : i + vs.length + (ks.length - j) ≤ cap
    · by_cases h3 : i + vs.length ≤ j
      · exact rep_less g cap i j ks.length ks va vc vs w hR hV hij (by omega) rfl h3 hks
      · exact rep_more g cap i j ks.length ks va vc vs w hR hV hij (by omega) rfl (by omega) h2 hks hvs
    · exact rep_grow g cap i j ks.length ks va vc vs w hR hV hij (by omega) rfl (by omega) hks hvs
end Go.Proofs.YtokbgbbkopmngaaGreat
