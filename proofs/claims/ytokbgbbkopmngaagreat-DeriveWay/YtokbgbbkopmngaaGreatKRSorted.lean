import Derived.Test.YtokbgbbkopmngaaGreatRSort
import Derived.Test.YtokbgbbkopmngaaGreatTRClone
import Derived.Deep.AppendLies
import Derived.Laws.ResultCell
import Derived.Test.YtokbgbbkopmngaaGreatTSpoil
import Derived.Test.YtokbgbbkopmngaaGreatLeaf
import Derived.Test.YtokbgbbkopmngaaGreatChkPlain
import Derived.Test.YtokbgbbkopmngaaGreatLater
/- The walk of the document's Sorted. -/
namespace Go.Proofs.YtokbgbbkopmngaaGreat
open Go.RowKit Go.Deep

set_option maxRecDepth 100000 in
theorem RowAt.take {w : World} {a : Option Addr} {n : Nat} {ks : List Kv} (h : RowAt w a n ks) {p : Nat} (hp : p ≤ ks.length) : RowAt w a p (ks.take p) :=
  ⟨by simp; omega, fun j u hu => h.cells j u (by
    rw [kvCells_take, List.getElem?_take] at hu
    split at hu
    · exact hu
    · cases hu)⟩
set_option maxRecDepth 100000 in
theorem RowAt.drop {w : World} {g off n : Nat} {ks : List Kv} (h : RowAt w (some ⟨g, off, none⟩) n ks) {p : Nat} (_ : p ≤ ks.length) : RowAt w (some ⟨g, off + p * 3, none⟩) (n - p) (ks.drop p) :=
  ⟨by rw [List.length_drop, h.len], fun j u hu => by
    rw [kvCells_drop, List.getElem?_drop] at hu
    obtain ⟨b, o, e, hc⟩ := h.cells _ u hu
    cases e
    exact ⟨g, off + p * 3, rfl, by rw [Nat.add_assoc]; exact hc⟩⟩
set_option maxRecDepth 100000 in
theorem RowAt.empty (w : World) (a : Option Addr) : RowAt w a 0 [] := ⟨rfl, fun j u hu => by simp [kvCells] at hu⟩
set_option maxRecDepth 100000 in
theorem row_empty26 (w : World) : (w.alloc (.cells #[] 26)).ownsRow w.heap.size 26 3 (.slice (some ⟨w.heap.size, 0, none⟩) 0 0) 0 (kvCells []) :=
  ⟨rfl, .inr ⟨w.heap.size, 0, #[], rfl, Nat.le_refl _, World.alloc_heap_new w _, Nat.le_refl _, Nat.zero_le _, rfl, rfl⟩⟩
set_option maxRecDepth 100000 in
theorem RowAt.new (w : World) (k : Kv) : RowAt (w.alloc (.cells #[.string k.x.1, .int .i64 k.x.2, .slice k.a (lenF k.l) k.c] 26)) (some ⟨w.heap.size, 0, none⟩) 1 [k] :=
  ⟨rfl, fun j u hu => by
    refine ⟨w.heap.size, 0, rfl, ?_⟩
    have h := World.news_of_block (heap_alloc_new w (.cells #[.string k.x.1, .int .i64 k.x.2, .slice k.a (lenF k.l) k.c] 26)) j u (by simpa [kvCells, Kv.cells] using hu)
    rw [← h]
    congr 1
    unfold Addr.add
    split <;> simp_all⟩
/-- What the inner loop has found when it ends. -/
structure Found (out : List Kv) (k : Kv) (p : Nat) : Prop where
  le : p ≤ out.length
  gt : ∀ q y, p ≤ q → out[q]? = some y → cmpN y.tn k.tn > 0
  at_ : p = 0 ∨ ∀ y, out[p - 1]? = some y → cmpN y.tn k.tn ≤ 0
set_option maxRecDepth 100000 in
theorem Found.ins {out : List Kv} {k : Kv} {p : Nat} (h : Found out k p) (hs : Srt (out.map Kv.tn)) : (out.take p ++ [k] ++ out.drop p).map Kv.tn = insN k.tn (out.map Kv.tn) := by
  rw [ins_at hs (n := p) (by simpa using h.le) (fun j y hj hy => by
    rw [List.getElem?_map, Option.map_eq_some_iff] at hy
    obtain ⟨z, hz, rfl⟩ := hy
    exact h.gt j z hj hz) (by
    rcases h.at_ with h0 | h0
    · exact .inl h0
    · refine .inr (fun y hy => ?_)
      rw [List.getElem?_map, Option.map_eq_some_iff] at hy
      obtain ⟨z, hz, rfl⟩ := hy
      exact h0 z hz)]
  simp

set_option maxRecDepth 100000 in
set_option maxHeartbeats 2000000 in
theorem sorted_any (a : Option Addr) (n cap : Nat) (ks : List Kv) (w : World) (hR : RowAt w a n ks) (hK : ∀ k ∈ ks, TmAt w k.x k.a k.c k.l) (hn : n ≤ 2097152) :
    Calls Tryz.prog 49 #[.slice a n cap] w fun e w' => ∃ v out, e = .returned v ∧ w'.ownsRow w.heap.size 26 3 v out.length (kvCells out) ∧ (∀ k ∈ out, k ∈ ks) ∧ out.map Kv.tn = sortN (ks.map Kv.tn) ∧ Below w.heap.size w w' := by
  obtain rfl := hR.len
  have HR : Hid (RowAt w a ks.length ks) := hR
  have HK : Hid (∀ k ∈ ks, TmAt w k.x k.a k.c k.l) := hK
  clear hR hK
  go_enter Tryz.func49, Tryz.ntmps49
  go_wp2
  go_loopw [3, 4] (fun ov i wr => ∃ (j : Nat) (v : Value) (out : List Kv), j ≤ ks.length ∧ v = ov ∧ i = .int .i64 j ∧ wr.ownsRow w.heap.size 26 3 v out.length (kvCells out) ∧ (∀ k ∈ out, k ∈ ks) ∧ out.map Kv.tn = sortN ((ks.take j).map Kv.tn) ∧ Below w.heap.size w wr) (fun _ i _ => ks.length - (intOf i).toNat)
  case atStart => exact ⟨0, _, [], Nat.zero_le _, rfl, rfl, World.ownsRow_nil _ _ _ _, by simp, by simp [sortN], Below.refl _ _⟩
  case round =>
    obtain ⟨j, v, out, hj, rfl, rfl, hrow, hin, hmap, hlow⟩ := hrel
    have HRow : Hid (wr.ownsRow w.heap.size 26 3 v out.length (kvCells out)) := hrow
    have HIn : Hid (∀ k ∈ out, k ∈ ks) := hin
    have HM : Hid (out.map Kv.tn = sortN ((ks.take j).map Kv.tn)) := hmap
    have HL : Hid (Below w.heap.size w wr) := hlow
    have hol : out.length ≤ ks.length := by
      have := congrArg List.length hmap
      rw [List.length_map, sortN_len, List.length_map, List.length_take] at this
      omega
    clear hrow hin hmap hlow
    by_cases hlt : j < ks.length
    · obtain ⟨kv, hkv⟩ : ∃ kv, ks[j]? = some kv := ⟨_, List.getElem?_eq_getElem hlt⟩
      obtain ⟨b, off, rfl, s0, s1, s2⟩ := (HR.out.below HL.out).get hkv
      have HKV : Hid (ks[j]? = some kv) := hkv
      have HTk : Hid (TmAt wr kv.x kv.a kv.c kv.l) := (HK.out kv (List.mem_of_getElem? hkv)).below HL.out
      obtain ⟨oa, ocap, rfl, hoc, hocm, hot, honil, hosome⟩ := row_of_owns HRow.out
      have HOT : Hid (RowAt wr oa out.length out) := hot
      obtain ⟨wo, rfl⟩ : ∃ wo, wo = wr := ⟨wr, rfl⟩
      have hjn : (j : Int) < (ks.length : Int) := by omega
      have hj0 : (0 : Int) ≤ (j : Int) := by omega
      clear hot hkv
      rcases oa with _ | ⟨g, o2, sp⟩
      · obtain ⟨ho0, rfl⟩ := honil rfl
        obtain rfl : out = [] := List.length_eq_zero_iff.1 ho0
        clear ho0 hosome honil
        have hd : decide (0 < 0) = false := by simp
        go_wp2
        go_loopw [5] (fun av W => av = .int .i64 0 ∧ Below wo.heap.size wo W) (fun av _ => (intOf av).toNat)
        case atStart => exact ⟨rfl, Below.refl _ _⟩
        case round =>
          obtain ⟨rfl, hW⟩ := hrel
          have HW : Hid (Below wo.heap.size wo wr) := hW
          have hF : Hid (Found ([] : List Kv) kv 0) := ⟨Nat.le_refl _, fun q y _ hy => by simp at hy, .inl rfl⟩
          have hne := later_some wr
          clear hW
          go_wp2_with fail
          refine wp_region_later (by kernel_rfl) (by kernel_rfl) ?_
          repeat (go_big_quiet_step (fail))
          refine wpQuiet_nil ?_
          intro _ hw'
          obtain ⟨b3, hw''⟩ := hw'
          subst hw''
          have HW9 : Hid (Below wo.heap.size wo b3.now) := HW.out.trans (b3.below.mono HW.out.size)
          obtain ⟨W9, hW9⟩ : ∃ W9, b3.now = W9 := ⟨_, rfl⟩
          rw [hW9] at HW9 ⊢
          clear hW9 hne
          have HA9 : Hid (Below W9.heap.size W9 (W9.alloc (.cells #[] 26))) := (Below.refl _ _).alloc (Nat.le_refl _) _
          have HO9 : Hid (RowAt (W9.alloc (.cells #[] 26)) none 0 []) := (HOT.out.below HW9.out).below HA9.out
          have hz9 := HW9.out.size
          go_wp2_with (at_builtin; first
            | (refine wpList_append_kvs rfl (.tmp 32) (.tmp 35) rfl W9.heap.size _ [] rfl (row_empty26 W9) none 0 0 (([] : List Kv)) rfl HO9.out (fun _ => rfl) (by simp <;> omega) (by simp) ?_; intro v1 w1 hown1 hgrow1; have HB1 : Hid (Below W9.heap.size W9 w1) := HA9.out.grown hgrow1 (by simp) (fun k e => by cases e; exact Nat.le_refl _); have HO1 : Hid (w1.ownsRow W9.heap.size 26 3 v1 (([] : List Kv)).length (kvCells (([] : List Kv)))) := hown1; have t0 := below_cell (HW9.out.trans (HB1.out.mono hz9)) _ _ s0; have t1 := below_cell (HW9.out.trans (HB1.out.mono hz9)) _ _ s1; have t2 := below_cell (HW9.out.trans (HB1.out.mono hz9)) _ _ s2; have hz1 := HB1.out.size; clear hown1 hgrow1)
            | (refine wpList_append_kvs rfl (.tmp 37) (.tmp 42) rfl W9.heap.size v1 (([] : List Kv)) rfl (owns_below HO1.out ((Below.refl _ _).alloc (Nat.le_refl _) _)) (some ⟨w1.heap.size, 0, none⟩) 1 1 [kv] rfl (RowAt.new w1 kv) (fun e => by cases e) (by simp <;> omega) (by rw [World.size_alloc]; omega) ?_; intro v2 w2 hown2 hgrow2; have HB2 : Hid (Below W9.heap.size W9 w2) := (HB1.out.alloc hz1 _).grown hgrow2 (by rw [World.size_alloc]; omega) (fun k e => (owns_cells HO1.out e).1); have HO2 : Hid (w2.ownsRow W9.heap.size 26 3 v2 (([] : List Kv) ++ [kv]).length (kvCells (([] : List Kv) ++ [kv]))) := hown2; have HR2 : Hid (RowAt w2 none 0 []) := (HOT.out.below HW9.out).below HB2.out; have hz2 := HB2.out.size; clear hown2 hgrow2)
            | (refine wpList_append_kvs rfl (.tmp 44) (.tmp 47) rfl W9.heap.size v2 (([] : List Kv) ++ [kv]) rfl HO2.out none 0 0 [] rfl (RowAt.empty _ _) (fun _ => rfl) (by simp <;> omega) hz2 ?_; intro v3 w3 hown3 hgrow3; have HB3 : Hid (Below W9.heap.size W9 w3) := HB2.out.grown hgrow3 hz2 (fun k e => (owns_cells HO2.out e).1); have HO3 : Hid (w3.ownsRow W9.heap.size 26 3 v3 (([] : List Kv) ++ [kv] ++ ([] : List Kv)).length (kvCells (([] : List Kv) ++ [kv] ++ ([] : List Kv)))) := hown3; clear hown3 hgrow3))
          go_roundw
          case rel =>
            refine ⟨j + 1, v3, ([] : List Kv) ++ [kv] ++ ([] : List Kv), by omega, rfl, by go_num, owns_base HO3.out (by have := HL.out.size; omega), ?_, ?_, HL.out.trans ((HW9.out.trans (HB3.out.mono hz9)).mono HL.out.size)⟩
            · intro k hk
              simp at hk
              subst hk
              exact List.mem_of_getElem? HKV.out
            · rw [show ([] ++ [kv] ++ [] : List Kv).map Kv.tn = insN kv.tn (([] : List Kv).map Kv.tn) from rfl, HM.out, ← sortN_snoc, List.take_add_one, HKV.out]
              simp
          case measure => simp [intOf]; omega
      · obtain ⟨_, rfl, rfl⟩ := hosome _ _ _ rfl
        clear honil hosome
        go_wp2
        go_loopw [5] (fun av W => ∃ p : Nat, p ≤ out.length ∧ av = .int .i64 p ∧ Below wo.heap.size wo W ∧ (∀ q y, p ≤ q → out[q]? = some y → cmpN y.tn kv.tn > 0)) (fun av _ => (intOf av).toNat)
        case atStart => exact ⟨out.length, Nat.le_refl _, rfl, Below.refl _ _, fun q y hq hy => by rw [List.getElem?_eq_none hq] at hy; cases hy⟩
        case round =>
          obtain ⟨p, hp, rfl, hW, hgt⟩ := hrel
          have HW : Hid (Below wo.heap.size wo wr) := hW
          have HGt : Hid (∀ q y, p ≤ q → out[q]? = some y → cmpN y.tn kv.tn > 0) := hgt
          clear hW hgt
          cases p with
          | zero =>
            have hF : Hid (Found out kv 0) := ⟨hp, HGt.out, .inl rfl⟩
            have hne := later_some wr
            have hd : decide (0 < 0) = false := by simp
            go_wp2_with fail
            refine wp_region_later (by kernel_rfl) (by kernel_rfl) ?_
            repeat (go_big_quiet_step (fail))
            refine wpQuiet_nil ?_
            intro _ hw'
            obtain ⟨b3, hw''⟩ := hw'
            subst hw''
            have HW9 : Hid (Below wo.heap.size wo b3.now) := HW.out.trans (b3.below.mono HW.out.size)
            obtain ⟨W9, hW9⟩ : ∃ W9, b3.now = W9 := ⟨_, rfl⟩
            rw [hW9] at HW9 ⊢
            clear hW9 hne
            have HA9 : Hid (Below W9.heap.size W9 (W9.alloc (.cells #[] 26))) := (Below.refl _ _).alloc (Nat.le_refl _) _
            have HO9 : Hid (RowAt (W9.alloc (.cells #[] 26)) (some ⟨g, 0, none⟩) out.length out) := (HOT.out.below HW9.out).below HA9.out
            have hz9 := HW9.out.size
            have hpo : 0 ≤ out.length := hF.out.le
            have hq0 : (0 : Int) ≤ ((0 : Nat) : Int) := by omega
            have hq1 : ((0 : Nat) : Int) ≤ (out.length : Int) := by omega
            have hq2 : ((0 : Nat) : Int) ≤ (ocap : Int) := by omega
            go_wp2_with (at_builtin; first
              | (refine wpList_append_kvs rfl (.tmp 32) (.tmp 35) rfl W9.heap.size _ [] rfl (row_empty26 W9) (some ⟨g, 0, none⟩) (0) ocap (out.take (0)) rfl (HO9.out.take hF.out.le) (fun e => by cases e) (by simp <;> omega) (by simp) ?_; intro v1 w1 hown1 hgrow1; have HB1 : Hid (Below W9.heap.size W9 w1) := HA9.out.grown hgrow1 (by simp) (fun k e => by cases e; exact Nat.le_refl _); have HO1 : Hid (w1.ownsRow W9.heap.size 26 3 v1 (out.take (0)).length (kvCells (out.take (0)))) := hown1; have t0 := below_cell (HW9.out.trans (HB1.out.mono hz9)) _ _ s0; have t1 := below_cell (HW9.out.trans (HB1.out.mono hz9)) _ _ s1; have t2 := below_cell (HW9.out.trans (HB1.out.mono hz9)) _ _ s2; have hz1 := HB1.out.size; clear hown1 hgrow1)
              | (refine wpList_append_kvs rfl (.tmp 37) (.tmp 42) rfl W9.heap.size v1 (out.take (0)) rfl (owns_below HO1.out ((Below.refl _ _).alloc (Nat.le_refl _) _)) (some ⟨w1.heap.size, 0, none⟩) 1 1 [kv] rfl (RowAt.new w1 kv) (fun e => by cases e) (by simp <;> omega) (by rw [World.size_alloc]; omega) ?_; intro v2 w2 hown2 hgrow2; have HB2 : Hid (Below W9.heap.size W9 w2) := (HB1.out.alloc hz1 _).grown hgrow2 (by rw [World.size_alloc]; omega) (fun k e => (owns_cells HO1.out e).1); have HO2 : Hid (w2.ownsRow W9.heap.size 26 3 v2 (out.take (0) ++ [kv]).length (kvCells (out.take (0) ++ [kv]))) := hown2; have HR2 : Hid (RowAt w2 (some ⟨g, 0, none⟩) out.length out) := (HOT.out.below HW9.out).below HB2.out; have hz2 := HB2.out.size; clear hown2 hgrow2)
              | (refine wpList_append_kvs rfl (.tmp 44) (.tmp 47) rfl W9.heap.size v2 (out.take (0) ++ [kv]) rfl HO2.out (some ⟨g, 0, none⟩) out.length ocap (out.drop (0)) rfl (by simpa using HR2.out) (fun e => by cases e) (by simp <;> omega) hz2 ?_; intro v3 w3 hown3 hgrow3; have HB3 : Hid (Below W9.heap.size W9 w3) := HB2.out.grown hgrow3 hz2 (fun k e => (owns_cells HO2.out e).1); have HO3 : Hid (w3.ownsRow W9.heap.size 26 3 v3 (out.take (0) ++ [kv] ++ out.drop (0)).length (kvCells (out.take (0) ++ [kv] ++ out.drop (0)))) := hown3; clear hown3 hgrow3))
            go_roundw
            case rel =>
              refine ⟨j + 1, v3, out.take (0) ++ [kv] ++ out.drop (0), by omega, rfl, by go_num, owns_base HO3.out (by have := HL.out.size; omega), ?_, ?_, HL.out.trans ((HW9.out.trans (HB3.out.mono hz9)).mono HL.out.size)⟩
              · intro k hk
                simp only [List.mem_append, List.mem_singleton] at hk
                rcases hk with (hk | rfl) | hk
                · exact HIn.out k (List.mem_of_mem_take hk)
                · exact List.mem_of_getElem? HKV.out
                · exact HIn.out k (List.mem_of_mem_drop hk)
              · rw [hF.out.ins (by rw [HM.out]; exact sortN_srt _), HM.out, ← sortN_snoc, List.take_add_one, HKV.out]
                simp
            case measure => simp [intOf]; omega
          | succ p =>
            obtain ⟨y, hy⟩ : ∃ y, out[p]? = some y := ⟨_, List.getElem?_eq_getElem (by omega)⟩
            obtain ⟨b2, off2, e, y0, y1, y2⟩ := (HOT.out.below HW.out).get hy
            cases e
            rw [Nat.zero_add] at y0 y1 y2
            have HC : Hid (∀ V, Below wr.heap.size wr V → Calls Tryz.prog 32 #[.agg #[.string y.x.1, .int .i64 y.x.2, .slice y.a (lenF y.l) y.c], .agg #[.string kv.x.1, .int .i64 kv.x.2, .slice kv.a (lenF kv.l) kv.c]] V fun e w' => e = .returned (.int .i64 (cmpN y.tn kv.tn)) ∧ Below V.heap.size V w') := fun V hV =>
              rcompare_all _ y.x kv.x y.a kv.a y.c kv.c y.l kv.l V (Nat.le_refl _) ((((HK.out y (HIn.out y (List.mem_of_getElem? hy))).below HL.out).below HW.out).below hV) ((HTk.out.below HW.out).below hV)
            obtain ⟨cv, hcv⟩ : ∃ cv, cmpN y.tn kv.tn = cv := ⟨_, rfl⟩
            rw [hcv] at HC
            have HY : Hid (out[p]? = some y) := hy
            have HCV : Hid (cmpN y.tn kv.tn = cv) := hcv
            have t0 := below_cell HW.out _ _ s0
            have t1 := below_cell HW.out _ _ s1
            have t2 := below_cell HW.out _ _ s2
            have hne := later_some wr
            have d0 := later_cell y0; have d1 := later_cell y1; have d2 := later_cell y2
            have d3 := later_cell t0; have d4 := later_cell t1; have d5 := later_cell t2
            have hd : decide (0 < p + 1) = true := by simp
            have hp0 : (0 : Int) ≤ (p : Int) := by omega
            have hpn : (p : Int) < (out.length : Int) := by omega
            clear hy hcv y0 y1 y2 t0 t1 t2
            go_wp2_with fail
            refine wp_region_later (by kernel_rfl) (by kernel_rfl) ?_
            repeat (go_big_quiet_step (first | (go_at_call 32; refine calls_later (HC.out _ ?_); exact Later.below _) | fail))
            by_cases hc : 0 < cv
            · refine wpQuiet_nil ?_
              intro _ hw'
              obtain ⟨b3, hw''⟩ := hw'
              subst hw''
              have HW9 : Hid (Below wo.heap.size wo b3.now) := HW.out.trans (b3.below.mono HW.out.size)
              clear d0 d1 d2 d3 d4 d5 hne
              go_wp2
              go_roundw
              case rel =>
                refine ⟨p, by omega, by go_num, HW9.out, fun q z hq hz => ?_⟩
                rcases Nat.lt_or_ge p q with h | h
                · exact HGt.out q z h hz
                · obtain rfl : q = p := by omega
                  rw [HY.out] at hz
                  cases hz
                  rw [HCV.out]
                  exact hc
              case measure => simp [intOf]
            · have hF : Hid (Found out kv (p + 1)) := ⟨hp, HGt.out, .inr (fun z hz => by rw [Nat.add_sub_cancel, HY.out] at hz; cases hz; rw [HCV.out]; omega)⟩
              refine wpQuiet_nil ?_
              intro _ hw'
              obtain ⟨b3, hw''⟩ := hw'
              subst hw''
              have HW9 : Hid (Below wo.heap.size wo b3.now) := HW.out.trans (b3.below.mono HW.out.size)
              obtain ⟨W9, hW9⟩ : ∃ W9, b3.now = W9 := ⟨_, rfl⟩
              rw [hW9] at HW9 ⊢
              clear hW9 d0 d1 d2 d3 d4 d5 hne
              have HA9 : Hid (Below W9.heap.size W9 (W9.alloc (.cells #[] 26))) := (Below.refl _ _).alloc (Nat.le_refl _) _
              have HO9 : Hid (RowAt (W9.alloc (.cells #[] 26)) (some ⟨g, 0, none⟩) out.length out) := (HOT.out.below HW9.out).below HA9.out
              have hz9 := HW9.out.size
              have hpo : (p + 1) ≤ out.length := hF.out.le
              have hq0 : (0 : Int) ≤ (((p + 1) : Nat) : Int) := by omega
              have hq1 : (((p + 1) : Nat) : Int) ≤ (out.length : Int) := by omega
              have hq2 : (((p + 1) : Nat) : Int) ≤ (ocap : Int) := by omega
              by_cases hcap : ocap = p + 1
              · have hdr : out.drop (p + 1) = [] := List.drop_eq_nil_of_le (by omega)
                have hx1 : out.length - (p + 1) = 0 := by omega
                have hx2 : ocap - (p + 1) = 0 := by omega
                have Hcap : Hid (ocap = p + 1) := hcap
                clear hcap
                go_wp2_with (at_builtin; first
                  | (refine wpList_append_kvs rfl (.tmp 32) (.tmp 35) rfl W9.heap.size _ [] rfl (row_empty26 W9) (some ⟨g, 0, none⟩) ((p + 1)) ocap (out.take ((p + 1))) rfl (HO9.out.take hF.out.le) (fun e => by cases e) (by simp <;> omega) (by simp) ?_; intro v1 w1 hown1 hgrow1; have HB1 : Hid (Below W9.heap.size W9 w1) := HA9.out.grown hgrow1 (by simp) (fun k e => by cases e; exact Nat.le_refl _); have HO1 : Hid (w1.ownsRow W9.heap.size 26 3 v1 (out.take ((p + 1))).length (kvCells (out.take ((p + 1))))) := hown1; have t0 := below_cell (HW9.out.trans (HB1.out.mono hz9)) _ _ s0; have t1 := below_cell (HW9.out.trans (HB1.out.mono hz9)) _ _ s1; have t2 := below_cell (HW9.out.trans (HB1.out.mono hz9)) _ _ s2; have hz1 := HB1.out.size; clear hown1 hgrow1)
                  | (refine wpList_append_kvs rfl (.tmp 37) (.tmp 42) rfl W9.heap.size v1 (out.take ((p + 1))) rfl (owns_below HO1.out ((Below.refl _ _).alloc (Nat.le_refl _) _)) (some ⟨w1.heap.size, 0, none⟩) 1 1 [kv] rfl (RowAt.new w1 kv) (fun e => by cases e) (by simp <;> omega) (by rw [World.size_alloc]; omega) ?_; intro v2 w2 hown2 hgrow2; have HB2 : Hid (Below W9.heap.size W9 w2) := (HB1.out.alloc hz1 _).grown hgrow2 (by rw [World.size_alloc]; omega) (fun k e => (owns_cells HO1.out e).1); have HO2 : Hid (w2.ownsRow W9.heap.size 26 3 v2 (out.take ((p + 1)) ++ [kv]).length (kvCells (out.take ((p + 1)) ++ [kv]))) := hown2; have HR2 : Hid (RowAt w2 (some ⟨g, 0, none⟩) out.length out) := (HOT.out.below HW9.out).below HB2.out; have hz2 := HB2.out.size; clear hown2 hgrow2)
                  | (refine wpList_append_kvs rfl (.tmp 44) (.tmp 47) rfl W9.heap.size v2 (out.take ((p + 1)) ++ [kv]) rfl HO2.out (some ⟨g, 0, none⟩) 0 0 (out.drop ((p + 1))) rfl (by rw [hdr]; exact RowAt.empty _ _) (fun e => by cases e) (by simp <;> omega) hz2 ?_; intro v3 w3 hown3 hgrow3; have HB3 : Hid (Below W9.heap.size W9 w3) := HB2.out.grown hgrow3 hz2 (fun k e => (owns_cells HO2.out e).1); have HO3 : Hid (w3.ownsRow W9.heap.size 26 3 v3 (out.take ((p + 1)) ++ [kv] ++ out.drop ((p + 1))).length (kvCells (out.take ((p + 1)) ++ [kv] ++ out.drop ((p + 1))))) := hown3; clear hown3 hgrow3))
                go_roundw
                case rel =>
                  refine ⟨j + 1, v3, out.take ((p + 1)) ++ [kv] ++ out.drop ((p + 1)), by omega, rfl, by go_num, owns_base HO3.out (by have := HL.out.size; omega), ?_, ?_, HL.out.trans ((HW9.out.trans (HB3.out.mono hz9)).mono HL.out.size)⟩
                  · intro k hk
                    simp only [List.mem_append, List.mem_singleton] at hk
                    rcases hk with (hk | rfl) | hk
                    · exact HIn.out k (List.mem_of_mem_take hk)
                    · exact List.mem_of_getElem? HKV.out
                    · exact HIn.out k (List.mem_of_mem_drop hk)
                  · rw [hF.out.ins (by rw [HM.out]; exact sortN_srt _), HM.out, ← sortN_snoc, List.take_add_one, HKV.out]
                    simp
                case measure => simp [intOf]; omega
              · have hx3 : ¬ (ocap - (p + 1) = 0) := by omega
                go_wp2_with (at_builtin; first
                  | (refine wpList_append_kvs rfl (.tmp 32) (.tmp 35) rfl W9.heap.size _ [] rfl (row_empty26 W9) (some ⟨g, 0, none⟩) ((p + 1)) ocap (out.take ((p + 1))) rfl (HO9.out.take hF.out.le) (fun e => by cases e) (by simp <;> omega) (by simp) ?_; intro v1 w1 hown1 hgrow1; have HB1 : Hid (Below W9.heap.size W9 w1) := HA9.out.grown hgrow1 (by simp) (fun k e => by cases e; exact Nat.le_refl _); have HO1 : Hid (w1.ownsRow W9.heap.size 26 3 v1 (out.take ((p + 1))).length (kvCells (out.take ((p + 1))))) := hown1; have t0 := below_cell (HW9.out.trans (HB1.out.mono hz9)) _ _ s0; have t1 := below_cell (HW9.out.trans (HB1.out.mono hz9)) _ _ s1; have t2 := below_cell (HW9.out.trans (HB1.out.mono hz9)) _ _ s2; have hz1 := HB1.out.size; clear hown1 hgrow1)
                  | (refine wpList_append_kvs rfl (.tmp 37) (.tmp 42) rfl W9.heap.size v1 (out.take ((p + 1))) rfl (owns_below HO1.out ((Below.refl _ _).alloc (Nat.le_refl _) _)) (some ⟨w1.heap.size, 0, none⟩) 1 1 [kv] rfl (RowAt.new w1 kv) (fun e => by cases e) (by simp <;> omega) (by rw [World.size_alloc]; omega) ?_; intro v2 w2 hown2 hgrow2; have HB2 : Hid (Below W9.heap.size W9 w2) := (HB1.out.alloc hz1 _).grown hgrow2 (by rw [World.size_alloc]; omega) (fun k e => (owns_cells HO1.out e).1); have HO2 : Hid (w2.ownsRow W9.heap.size 26 3 v2 (out.take ((p + 1)) ++ [kv]).length (kvCells (out.take ((p + 1)) ++ [kv]))) := hown2; have HR2 : Hid (RowAt w2 (some ⟨g, 0, none⟩) out.length out) := (HOT.out.below HW9.out).below HB2.out; have hz2 := HB2.out.size; clear hown2 hgrow2)
                  | (refine wpList_append_kvs rfl (.tmp 44) (.tmp 47) rfl W9.heap.size v2 (out.take ((p + 1)) ++ [kv]) rfl HO2.out (some ⟨g, (p + 1) * 3, none⟩) (out.length - (p + 1)) (ocap - (p + 1)) (out.drop ((p + 1))) rfl (by have := HR2.out.drop (p := p + 1) hpo; rwa [Nat.zero_add] at this) (fun e => by cases e) (by simp <;> omega) hz2 ?_; intro v3 w3 hown3 hgrow3; have HB3 : Hid (Below W9.heap.size W9 w3) := HB2.out.grown hgrow3 hz2 (fun k e => (owns_cells HO2.out e).1); have HO3 : Hid (w3.ownsRow W9.heap.size 26 3 v3 (out.take ((p + 1)) ++ [kv] ++ out.drop ((p + 1))).length (kvCells (out.take ((p + 1)) ++ [kv] ++ out.drop ((p + 1))))) := hown3; clear hown3 hgrow3))
                go_roundw
                case rel =>
                  refine ⟨j + 1, v3, out.take ((p + 1)) ++ [kv] ++ out.drop ((p + 1)), by omega, rfl, by go_num, owns_base HO3.out (by have := HL.out.size; omega), ?_, ?_, HL.out.trans ((HW9.out.trans (HB3.out.mono hz9)).mono HL.out.size)⟩
                  · intro k hk
                    simp only [List.mem_append, List.mem_singleton] at hk
                    rcases hk with (hk | rfl) | hk
                    · exact HIn.out k (List.mem_of_mem_take hk)
                    · exact List.mem_of_getElem? HKV.out
                    · exact HIn.out k (List.mem_of_mem_drop hk)
                  · rw [hF.out.ins (by rw [HM.out]; exact sortN_srt _), HM.out, ← sortN_snoc, List.take_add_one, HKV.out]
                    simp
                case measure => simp [intOf]; omega
    · obtain rfl : j = ks.length := by omega
      have HM' : Hid (out.map Kv.tn = sortN (ks.map Kv.tn)) := by have := HM.out; rwa [List.take_length] at this
      go_wp2
      go_ret
      exact ⟨v, out, rfl, HRow.out, HIn.out, HM'.out, HL.out⟩
end Go.Proofs.YtokbgbbkopmngaaGreat
/- A list of terms under way: a row of its own, the terms' lists elsewhere; what the document's Clones answers. -/
namespace Go.Proofs.YtokbgbbkopmngaaGreat
open Go.RowKit Go.Deep

structure Lst (B : Nat) (W : World) (v : Value) (ks : List Kv) : Prop where
  row : W.ownsRow B 26 3 v ks.length (kvCells ks)
  own : ∀ k ∈ ks, OwnTm false (fun q => B ≤ q ∧ some q ≠ v.ownBlock) W k.x k.a k.c k.l
set_option maxRecDepth 100000 in
theorem Lst.nil (B : Nat) (W : World) : Lst B W (.slice none 0 0) [] := ⟨World.ownsRow_nil _ _ _ _, by simp⟩
set_option maxRecDepth 100000 in
theorem Lst.below {B : Nat} {W W' : World} {v : Value} {ks : List Kv} (h : Lst B W v ks) (hb : Below W.heap.size W W') : Lst B W' v ks := ⟨owns_below h.row hb, fun k hk => (h.own k hk).below hb⟩
set_option maxRecDepth 100000 in
theorem Lst.base {B B' : Nat} {W : World} {v : Value} {ks : List Kv} (h : Lst B W v ks) (hB : B' ≤ B) : Lst B' W v ks := ⟨owns_base h.row hB, fun k hk => (h.own k hk).mono (fun q _ hq => ⟨by omega, hq.2⟩)⟩
set_option maxRecDepth 100000 in
theorem Lst.lt {B : Nat} {W : World} {v : Value} {ks : List Kv} {g : Nat} (h : Lst B W v ks) (hg : v.ownBlock = some g) : g < W.heap.size := by
  obtain ⟨cur, hc⟩ := (owns_cells h.row hg).2
  exact (Array.getElem?_eq_some_iff.1 hc).1
set_option maxRecDepth 100000 in
theorem Lst.grow {B : Nat} {W W1 W2 : World} {v v' : Value} {ks ms : List Kv} (h : Lst B W v ks) (hW : Below W.heap.size W W1) (hm : ∀ k ∈ ms, OwnTm false (fun q => W.heap.size ≤ q) W1 k.x k.a k.c k.l) (hB : B ≤ W.heap.size)
    (hg : W1.grownBy W2 v.ownBlock) (hat : v'.ownBlock = v.ownBlock ∨ v'.ownBlock = some W1.heap.size) (ho : W2.ownsRow B 26 3 v' (ks ++ ms).length (kvCells (ks ++ ms))) : Lst B W2 v' (ks ++ ms) := by
  refine ⟨ho, fun k hk => ?_⟩
  have h2 : OwnTm false (fun q => (B ≤ q ∧ some q ≠ v'.ownBlock) ∧ some q ≠ v.ownBlock) W1 k.x k.a k.c k.l := by
    rcases List.mem_append.1 hk with hk | hk
    · have h0 : OwnTm false (fun q => (B ≤ q ∧ some q ≠ v'.ownBlock) ∧ some q ≠ v.ownBlock) W k.x k.a k.c k.l := (h.own k hk).mono (fun q hq hp => ⟨⟨hp.1, by
        rcases hat with e | e
        · rw [e]; exact hp.2
        · rw [e]; intro e'; cases e'; have := hW.size; omega⟩, hp.2⟩)
      exact h0.below hW
    · refine (hm k hk).mono (fun q hq hp => ?_)
      have hne : some q ≠ v.ownBlock := fun e => by have := h.lt e.symm; omega
      refine ⟨⟨by omega, ?_⟩, hne⟩
      rcases hat with e | e
      · rw [e]; exact hne
      · rw [e]; intro e'; cases e'; omega
  exact (h2.keep (fun q hq hlt => hg.block q hlt hq.2)).mono (fun q _ hq => hq.1)
set_option maxRecDepth 100000 in
/-- append of what another slice holds: nil, or some. -/
theorem wpList_append_lst {ops : Array Oper} {rest : List Oper} {o : Oper} {a : Act} {Q : Exit → Act → World → Prop} {W : World} (hgd : o.guard = none) (s x : Operand)
    (ho : o.op = .call { callee := .builtin .append, args := #[s, x], argTypes := #[24, 24] }) (base : Nat) (v : Value) (ks : List Kv) (hs : a.eval s = v) (hown : W.ownsRow base 26 3 v ks.length (kvCells ks))
    (sa : Option Addr) (m c : Nat) (ms : List Kv) (hx : a.eval x = .slice sa m c) (hm : RowAt W sa m ms) (hnil : sa = none → c = 0) (hsome : sa ≠ none → 0 < m) (hbig : ks.length + m ≤ 2932031007400) (hbase : base ≤ W.heap.size)
    (h : ∀ v' w', w'.ownsRow base 26 3 v' (ks ++ ms).length (kvCells (ks ++ ms)) → W.grownBy w' v.ownBlock → (v'.ownBlock = v.ownBlock ∨ v'.ownBlock = some W.heap.size) → wpList Tryz.prog ops Q rest (a.put o.dst v') w') : wpList Tryz.prog ops Q (o :: rest) a W := by
  obtain ⟨i0, hi, hz0, hz1, hz2⟩ := info_parts Tryz.info26
  have hmax : maxLen = 9223372036854775807 := rfl
  rcases sa with _ | ⟨b, off, sp⟩
  · obtain rfl : ms = [] := by
      cases ms with
      | nil => rfl
      | cons k r =>
        obtain ⟨_, _, e, _⟩ := hm.get (j := 0) (k := k) rfl
        cases e
    obtain rfl := hm.len
    obtain rfl := hnil rfl
    refine wpList_append_own_none hgd s x 24 ho base 26 i0 3 Tryz.underlying24 hi v ks.length (kvCells ks) hs hown hx (h v W (by simpa using hown) ?_ (.inl rfl))
    exact ⟨rfl, rfl, rfl, Nat.le_refl _, fun _ _ _ => rfl⟩
  · have hlm := hm.len
    refine wpList_append_lies _ hgd s x 24 ho base 26 i0 _ 3 48 Tryz.underlying24 hi hz0 hz1 hz2 rfl (by decide) v ks.length (kvCells ks) hs hown ⟨b, off, sp⟩ m c (kvCells ms) hx (by rw [kvCells_len, hlm]) (fun j u hu => ?_) (kvCells_one ms) (hsome (by simp)) (by omega) (by omega) hbase _ rfl ?_
    · obtain ⟨b', off', e, hc⟩ := hm.cells j u hu
      cases e
      rw [← hc]
      congr 1
      unfold Addr.add
      split <;> simp_all
    · intro g cap w' h1 h2 h3 _
      refine h _ w' ?_ h2 ?_
      · rw [kvCells_append, List.length_append, ← hlm]
        exact h1
      · rcases h3 with h3 | h3
        · exact .inl h3.symm
        · exact .inr (by rw [h3]; rfl)

set_option maxRecDepth 100000 in
set_option maxHeartbeats 2000000 in
theorem clones_any (a : Option Addr) (F : Fo) (cap : Nat) (w : World) (hA : ArgsAt w a F) (hs : lenF F ≤ 2932031007319) :
    Calls Tryz.prog 52 #[.slice a (lenF F) cap] w fun e w' => ∃ v ks, e = .returned v ∧ Lst w.heap.size w' v ks ∧ (ks = [] → v = .slice none 0 0) ∧ ks.map Kv.tn = kidsL F ∧ Below w.heap.size w w' := by
  have HA : Hid (ArgsAt w a F) := hA
  clear hA
  go_enter Tryz.func52, Tryz.ntmps52
  go_wp2
  go_loopw [3, 4] (fun ov i wr => ∃ (j : Nat) (v : Value) (ks : List Kv), j ≤ lenF F ∧ v = ov ∧ i = .int .i64 j ∧ Lst w.heap.size wr v ks ∧ (ks = [] → v = .slice none 0 0) ∧ ks.map Kv.tn = (kidsL F).take j ∧ Below w.heap.size w wr) (fun _ i _ => lenF F - (intOf i).toNat)
  case atStart => exact ⟨0, _, [], Nat.zero_le _, rfl, rfl, Lst.nil _ _, fun _ => rfl, by simp, Below.refl _ _⟩
  case round =>
    obtain ⟨j, v, ks, hj, rfl, rfl, hL, hnil, hmap, hlow⟩ := hrel
    have HN : Hid (ks = [] → v = .slice none 0 0) := hnil
    have HL : Hid (Lst w.heap.size wr v ks) := hL
    have HM : Hid (ks.map Kv.tn = (kidsL F).take j) := hmap
    have HB : Hid (Below w.heap.size w wr) := hlow
    have hkl : ks.length = j := by
      have := congrArg List.length hmap
      rw [List.length_map, List.length_take, kids_len] at this
      omega
    clear hL hnil hmap hlow
    by_cases hlt : j < lenF F
    · obtain ⟨bb, oo, rfl, hkk⟩ := HA.out.get (by omega)
      obtain ⟨y, a1, c1, l1, kd⟩ := hkk.kid (k := j) hlt
      have kd' := kd.below HB.out
      have p0 := kd'.name; have p1 := kd'.sym; have p2 := kd'.list
      have KD : Hid (Kid wr F bb oo j y a1 c1 l1) := kd'
      have hj0 : (0 : Int) ≤ (j : Int) := by omega
      have hjn : (j : Int) < (lenF F : Int) := by omega
      clear kd kd' hkk
      have HC : Hid (∀ W, Below wr.heap.size wr W → Calls Tryz.prog 21 #[.agg #[.string y.1, .int .i64 y.2, .slice a1 (lenF l1) c1]] W fun e w' => ∃ a' c', e = .returned (.agg #[.string y.1, .int .i64 y.2, .slice a' (lenF l1) c']) ∧ RowTm W.heap.size w' y a' c' l1 ∧ Below W.heap.size W w') := fun W hW => rclone_any y l1 a1 c1 W (KD.out.at_.below hW)
      go_wp2_with (first
        | (go_at_call 21; refine (HC.out _ (Below.refl _ _)).mono ?_; rintro e w1 ⟨a', c', rfl, ho1, hb1⟩; have HO1 : Hid (OwnTm false (fun q => wr.heap.size ≤ q) w1 y a' c' l1) := ho1.own; have HB1 : Hid (Below wr.heap.size wr w1) := hb1; have hz1 := hb1.size; clear ho1 hb1)
        | (at_builtin; refine wpList_append_lst rfl _ _ rfl w.heap.size v ks rfl (owns_below HL.out.row (HB1.out.alloc hz1 _)) (some ⟨w1.heap.size, 0, none⟩) 1 1 [⟨y, l1, a', c'⟩] rfl (RowAt.new w1 ⟨y, l1, a', c'⟩) (fun e => by cases e) (fun _ => Nat.one_pos) (by omega) (by have := HB.out.size; rw [World.size_alloc]; omega) ?_; intro v2 w2 hown2 hgrow2 hat2; have HL2 : Hid (Lst w.heap.size w2 v2 (ks ++ [⟨y, l1, a', c'⟩])) := HL.out.grow (HB1.out.alloc hz1 _) (fun k hk => by simp only [List.mem_singleton] at hk; subst hk; exact HO1.out.below ((Below.refl _ _).alloc (Nat.le_refl _) _)) HB.out.size hgrow2 hat2 hown2; have HB2 : Hid (Below w.heap.size w w2) := HB.out.trans (((HB1.out.alloc hz1 _).mono HB.out.size).grown hgrow2 (by have := HB.out.size; rw [World.size_alloc]; omega) (fun k e => (owns_cells HL.out.row e).1)); clear hown2 hgrow2 hat2))
      go_roundw
      case rel =>
        obtain ⟨B1, O1, sp⟩ := KD.out.split
        exact ⟨j + 1, _, _, by omega, rfl, by go_num, HL2.out, fun e => by simp at e, by rw [kids_take sp, ← HM.out]; simp [Kv.tn], HB2.out⟩
      case measure => simp [intOf]; omega
    · obtain rfl : j = lenF F := by omega
      have HM' : Hid (ks.map Kv.tn = kidsL F) := by have := HM.out; rwa [List.take_of_length_le (by rw [kids_len]; exact Nat.le_refl _)] at this
      go_wp2
      go_ret
      exact ⟨v, ks, rfl, HL.out, HN.out, HM'.out, HB.out⟩
end Go.Proofs.YtokbgbbkopmngaaGreat
/- What the document's Parts answers, of any term. -/
namespace Go.Proofs.YtokbgbbkopmngaaGreat
open Go.RowKit Go.Deep

set_option maxRecDepth 100000 in
/-- A list of one new term. -/
theorem Lst.one {B : Nat} {W : World} (k : Kv) (hB : B ≤ W.heap.size) (h : OwnTm false (fun q => B ≤ q) W k.x k.a k.c k.l) : Lst B (W.alloc (.cells #[.string k.x.1, .int .i64 k.x.2, .slice k.a (lenF k.l) k.c] 26)) (.slice (some ⟨W.heap.size, 0, none⟩) 1 1) [k] := by
  refine ⟨⟨rfl, .inr ⟨W.heap.size, 1, _, rfl, hB, World.alloc_heap_new W _, Nat.le_refl _, by decide, rfl, rfl⟩⟩, fun k' hk => ?_⟩
  simp only [List.mem_singleton] at hk
  subst hk
  have h2 : OwnTm false (fun q => B ≤ q ∧ some q ≠ some W.heap.size) W k'.x k'.a k'.c k'.l := h.mono (fun q hq hp => ⟨hp, fun e => by cases e; omega⟩)
  exact h2.below ((Below.refl _ _).alloc (Nat.le_refl _) _)

set_option maxRecDepth 100000 in
set_option maxHeartbeats 2000000 in
theorem parts_any (a : Option Addr) (n cap : Nat) (l : List Sym) (f : Int) (t : Tn) (ta : Option Addr) (tc : Nat) (w : World) (hS : SigAt w a n l) (hT : TmAt w t.1 ta tc t.2) :
    Calls Tryz.prog 47 #[.slice a n cap, .int .i64 f, .agg #[.string t.1.1, .int .i64 t.1.2, .slice ta (lenF t.2) tc]] w fun e w' => ∃ v ks, e = .returned v ∧ Lst w.heap.size w' v ks ∧ (ks = [] → v = .slice none 0 0) ∧ ks.map Kv.tn = partsN (sgOf l) f t ∧ Below w.heap.size w w' := by
  obtain ⟨⟨nm, sy⟩, F⟩ := t
  have HS : Hid (SigAt w a n l) := hS
  have HT : Hid (TmAt w (nm, sy) ta tc F) := hT
  have hb := TBox.new w (nm, sy) ta (lenF F) tc
  have hlow : Hid (Below w.heap.size w (w.alloc (.cells #[.string nm, .int .i64 sy, .slice ta (lenF F) tc] 26))) := (Below.refl _ w).alloc (Nat.le_refl _) _
  have HJ : Hid (∀ W, Below w.heap.size w W → Calls Tryz.prog 30 #[.slice a n cap, .int .i64 f] W fun e w' => e = .returned (.bool (joinsAt l f)) ∧ Below W.heap.size W w') := fun W hW => joins_any a n cap l f W (HS.out.below hW)
  have HU : Hid (∀ W, Below w.heap.size w W → Calls Tryz.prog 48 #[.slice a n cap, .int .i64 f] W fun e w' => UnitRet l f e ∧ w' = W) := fun W hW => runit_any a n cap l f W (HS.out.below hW)
  have HC : Hid (∀ u W, Calls Tryz.prog 74 #[.agg #[.string nm, .int .i64 sy, .slice ta (lenF F) tc], .int .i64 u] W fun e w' => e = .returned (.bool (isConst ((nm, sy), F) u)) ∧ Below W.heap.size W w') := fun u W => constant_any ((nm, sy), F) ta tc u W (by have := HT.out.sizes.few; show lenF F ≤ _; omega)
  have HL : Hid (∀ W, Below w.heap.size w W → Calls Tryz.prog 21 #[.agg #[.string nm, .int .i64 sy, .slice ta (lenF F) tc]] W fun e w' => ∃ a' c', e = .returned (.agg #[.string nm, .int .i64 sy, .slice a' (lenF F) c']) ∧ RowTm W.heap.size w' (nm, sy) a' c' F ∧ Below W.heap.size W w') := fun W hW => rclone_any (nm, sy) F ta tc W (HT.out.below hW)
  have HK : Hid (∀ W, Below w.heap.size w W → Calls Tryz.prog 52 #[.slice ta (lenF F) tc] W fun e w' => ∃ v ks, e = .returned v ∧ Lst W.heap.size w' v ks ∧ (ks = [] → v = .slice none 0 0) ∧ ks.map Kv.tn = kidsL F ∧ Below W.heap.size W w') := fun W hW => clones_any ta F tc W (HT.out.args.below hW) (by have := HT.out.sizes.few; omega)
  clear hS hT
  cases hj : joinsAt l f
  · have e : Hid (partsN (sgOf l) f ((nm, sy), F) = [((nm, sy), F)]) := by show _ = _; unfold partsN; rw [if_pos (show (sgOf l).joins f = false from hj)]
    go_enter Tryz.func47, Tryz.ntmps47
    rw [hj] at HJ
    go_wp2_with (first
      | (go_at_call 30; refine (HJ.out _ hlow.out).mono ?_; rintro e w1 ⟨rfl, hb1⟩; have HB1 : Hid (Below w.heap.size w w1) := hlow.out.trans (hb1.mono (by simp)); have hbx := hb.below hb1; have HBX : Hid (TBox w1 w.heap.size (nm, sy) ta (lenF F) tc) := hbx; have c0 := hbx.c0; have c1 := hbx.c1; have c2 := hbx.c2; clear hb1 hbx)
      | (go_at_call 21; refine (HL.out _ HB1.out).mono ?_; rintro e w2 ⟨a', c', rfl, ho2, hb2⟩; have HO2 : Hid (RowTm w1.heap.size w2 (nm, sy) a' c' F) := ho2; have HB2 : Hid (Below w.heap.size w w2) := HB1.out.trans (hb2.mono HB1.out.size); clear ho2 hb2))
    go_ret
    refine ⟨_, [⟨(nm, sy), F, a', c'⟩], rfl, Lst.one ⟨(nm, sy), F, a', c'⟩ HB2.out.size (HO2.out.own.mono (fun q _ hq => Nat.le_trans HB1.out.size hq)), (fun h => by simp at h), by rw [e.out]; rfl, HB2.out.alloc HB2.out.size _⟩
  · have hj' : ¬ (sgOf l).joins f = false := by show ¬ joinsAt l f = false; rw [hj]; simp
    have rest : isUn (sgOf l) f ((nm, sy), F) = false → partsN (sgOf l) f ((nm, sy), F) = if headed f ((nm, sy), F) then kidsL F else [((nm, sy), F)] := fun h => by unfold partsN; rw [if_neg hj', if_neg (by rw [h]; simp)]
    have REST : Hid (isUn (sgOf l) f ((nm, sy), F) = false → partsN (sgOf l) f ((nm, sy), F) = if headed f ((nm, sy), F) then kidsL F else [((nm, sy), F)]) := rest
    have NONE : Hid (isUn (sgOf l) f ((nm, sy), F) = true → partsN (sgOf l) f ((nm, sy), F) = []) := fun h => by unfold partsN; rw [if_neg hj', if_pos h]
    clear rest hj'
    obtain ⟨ui, hui⟩ : ∃ ui, unitI l f = ui := ⟨_, rfl⟩
    cases huo : unitOk l f
    · have hun : Hid (isUn (sgOf l) f ((nm, sy), F) = false) := by show _ = _; unfold unitOk at huo; cases hq : unitAt l f with | none => simp [isUn, sgOf, hq] | some i => rw [hq] at huo; simp at huo
      cases hn : nm.toList.isEmpty
      · have e : Hid (partsN (sgOf l) f ((nm, sy), F) = [((nm, sy), F)]) := by show _ = _; rw [REST.out hun.out]; unfold headed noName; rw [hn]; simp
        go_enter Tryz.func47, Tryz.ntmps47
        rw [hj] at HJ
        go_wp2_with (first
          | (go_at_call 30; refine (HJ.out _ hlow.out).mono ?_; rintro e w1 ⟨rfl, hb1⟩; have HB1 : Hid (Below w.heap.size w w1) := hlow.out.trans (hb1.mono (by simp)); have hbx := hb.below hb1; have HBX : Hid (TBox w1 w.heap.size (nm, sy) ta (lenF F) tc) := hbx; have c0 := hbx.c0; have c1 := hbx.c1; have c2 := hbx.c2; clear hb1 hbx)
          | (go_at_call 48; refine (HU.out _ HB1.out).mono ?_; rintro e w9 ⟨he, hw9⟩; unfold UnitRet at he; rw [hui, huo] at he; subst he; rw [hw9]; clear hw9)
          | (go_at_call 21; refine (HL.out _ HB1.out).mono ?_; rintro e w2 ⟨a', c', rfl, ho2, hb2⟩; have HO2 : Hid (RowTm w1.heap.size w2 (nm, sy) a' c' F) := ho2; have HB2 : Hid (Below w.heap.size w w2) := HB1.out.trans (hb2.mono HB1.out.size); clear ho2 hb2))
        go_ret
        refine ⟨_, [⟨(nm, sy), F, a', c'⟩], rfl, Lst.one ⟨(nm, sy), F, a', c'⟩ HB2.out.size (HO2.out.own.mono (fun q _ hq => Nat.le_trans HB1.out.size hq)), (fun h => by simp at h), by rw [e.out]; rfl, HB2.out.alloc HB2.out.size _⟩
      · cases hs : (sy == f)
        · have e : Hid (partsN (sgOf l) f ((nm, sy), F) = [((nm, sy), F)]) := by show _ = _; rw [REST.out hun.out]; unfold headed; rw [hs]; simp
          go_enter Tryz.func47, Tryz.ntmps47
          rw [hj] at HJ
          go_wp2_with (first
            | (go_at_call 30; refine (HJ.out _ hlow.out).mono ?_; rintro e w1 ⟨rfl, hb1⟩; have HB1 : Hid (Below w.heap.size w w1) := hlow.out.trans (hb1.mono (by simp)); have hbx := hb.below hb1; have HBX : Hid (TBox w1 w.heap.size (nm, sy) ta (lenF F) tc) := hbx; have c0 := hbx.c0; have c1 := hbx.c1; have c2 := hbx.c2; clear hb1 hbx)
            | (go_at_call 48; refine (HU.out _ HB1.out).mono ?_; rintro e w9 ⟨he, hw9⟩; unfold UnitRet at he; rw [hui, huo] at he; subst he; rw [hw9]; clear hw9)
            | (go_at_call 21; refine (HL.out _ HB1.out).mono ?_; rintro e w2 ⟨a', c', rfl, ho2, hb2⟩; have HO2 : Hid (RowTm w1.heap.size w2 (nm, sy) a' c' F) := ho2; have HB2 : Hid (Below w.heap.size w w2) := HB1.out.trans (hb2.mono HB1.out.size); clear ho2 hb2))
          go_ret
          refine ⟨_, [⟨(nm, sy), F, a', c'⟩], rfl, Lst.one ⟨(nm, sy), F, a', c'⟩ HB2.out.size (HO2.out.own.mono (fun q _ hq => Nat.le_trans HB1.out.size hq)), (fun h => by simp at h), by rw [e.out]; rfl, HB2.out.alloc HB2.out.size _⟩
        · have e : Hid (partsN (sgOf l) f ((nm, sy), F) = kidsL F) := by show _ = _; rw [REST.out hun.out]; unfold headed noName; rw [hn, hs]; simp
          go_enter Tryz.func47, Tryz.ntmps47
          rw [hj] at HJ
          go_wp2_with (first
            | (go_at_call 30; refine (HJ.out _ hlow.out).mono ?_; rintro e w1 ⟨rfl, hb1⟩; have HB1 : Hid (Below w.heap.size w w1) := hlow.out.trans (hb1.mono (by simp)); have hbx := hb.below hb1; have HBX : Hid (TBox w1 w.heap.size (nm, sy) ta (lenF F) tc) := hbx; have c0 := hbx.c0; have c1 := hbx.c1; have c2 := hbx.c2; clear hb1 hbx)
            | (go_at_call 48; refine (HU.out _ HB1.out).mono ?_; rintro e w9 ⟨he, hw9⟩; unfold UnitRet at he; rw [hui, huo] at he; subst he; rw [hw9]; clear hw9)
            | (go_at_call 52; refine (HK.out _ HB1.out).mono ?_; rintro e w2 ⟨v, ks, rfl, ho2, hn2, hm2, hb2⟩; have HO2 : Hid (Lst w.heap.size w2 v ks) := ho2.base HB1.out.size; have HN2 : Hid (ks = [] → v = .slice none 0 0) := hn2; have HM2 : Hid (ks.map Kv.tn = kidsL F) := hm2; have HB2 : Hid (Below w.heap.size w w2) := HB1.out.trans (hb2.mono HB1.out.size); clear ho2 hn2 hm2 hb2))
          go_ret
          refine ⟨v, ks, rfl, HO2.out, HN2.out, by rw [HM2.out, e.out], HB2.out⟩
    · have hcc : Hid (isUn (sgOf l) f ((nm, sy), F) = isConst ((nm, sy), F) ui) := by
        show _ = _
        rw [← hui]
        unfold unitOk at huo
        cases hq : unitAt l f with
        | none => rw [hq] at huo; simp at huo
        | some i => simp [isUn, sgOf, unitI, hq]
      cases hcu : isConst ((nm, sy), F) ui
      · have hun : Hid (isUn (sgOf l) f ((nm, sy), F) = false) := by show _ = _; rw [hcc.out, hcu]
        cases hn : nm.toList.isEmpty
        · have e : Hid (partsN (sgOf l) f ((nm, sy), F) = [((nm, sy), F)]) := by show _ = _; rw [REST.out hun.out]; unfold headed noName; rw [hn]; simp
          go_enter Tryz.func47, Tryz.ntmps47
          rw [hj] at HJ
          go_wp2_with (first
            | (go_at_call 30; refine (HJ.out _ hlow.out).mono ?_; rintro e w1 ⟨rfl, hb1⟩; have HB1 : Hid (Below w.heap.size w w1) := hlow.out.trans (hb1.mono (by simp)); have hbx := hb.below hb1; have HBX : Hid (TBox w1 w.heap.size (nm, sy) ta (lenF F) tc) := hbx; have c0 := hbx.c0; have c1 := hbx.c1; have c2 := hbx.c2; clear hb1 hbx)
            | (go_at_call 48; refine (HU.out _ HB1.out).mono ?_; rintro e w9 ⟨he, hw9⟩; unfold UnitRet at he; rw [hui, huo] at he; subst he; rw [hw9]; clear hw9)
            | (go_at_call 74; refine (HC.out _ _).mono ?_; rintro e w3 ⟨he, hb3⟩; rw [hcu] at he; subst he; have HB3 : Hid (Below w.heap.size w w3) := HB1.out.trans (hb3.mono HB1.out.size); have hby := HBX.out.below hb3; have d0 := hby.c0; have d1 := hby.c1; have d2 := hby.c2; clear hb3 hby)
            | (go_at_call 21; refine (HL.out _ HB3.out).mono ?_; rintro e w2 ⟨a', c', rfl, ho2, hb2⟩; have HO2 : Hid (RowTm w3.heap.size w2 (nm, sy) a' c' F) := ho2; have HB2 : Hid (Below w.heap.size w w2) := HB3.out.trans (hb2.mono HB3.out.size); clear ho2 hb2))
          go_ret
          refine ⟨_, [⟨(nm, sy), F, a', c'⟩], rfl, Lst.one ⟨(nm, sy), F, a', c'⟩ HB2.out.size (HO2.out.own.mono (fun q _ hq => Nat.le_trans HB3.out.size hq)), (fun h => by simp at h), by rw [e.out]; rfl, HB2.out.alloc HB2.out.size _⟩
        · cases hs : (sy == f)
          · have e : Hid (partsN (sgOf l) f ((nm, sy), F) = [((nm, sy), F)]) := by show _ = _; rw [REST.out hun.out]; unfold headed; rw [hs]; simp
            go_enter Tryz.func47, Tryz.ntmps47
            rw [hj] at HJ
            go_wp2_with (first
              | (go_at_call 30; refine (HJ.out _ hlow.out).mono ?_; rintro e w1 ⟨rfl, hb1⟩; have HB1 : Hid (Below w.heap.size w w1) := hlow.out.trans (hb1.mono (by simp)); have hbx := hb.below hb1; have HBX : Hid (TBox w1 w.heap.size (nm, sy) ta (lenF F) tc) := hbx; have c0 := hbx.c0; have c1 := hbx.c1; have c2 := hbx.c2; clear hb1 hbx)
              | (go_at_call 48; refine (HU.out _ HB1.out).mono ?_; rintro e w9 ⟨he, hw9⟩; unfold UnitRet at he; rw [hui, huo] at he; subst he; rw [hw9]; clear hw9)
              | (go_at_call 74; refine (HC.out _ _).mono ?_; rintro e w3 ⟨he, hb3⟩; rw [hcu] at he; subst he; have HB3 : Hid (Below w.heap.size w w3) := HB1.out.trans (hb3.mono HB1.out.size); have hby := HBX.out.below hb3; have d0 := hby.c0; have d1 := hby.c1; have d2 := hby.c2; clear hb3 hby)
              | (go_at_call 21; refine (HL.out _ HB3.out).mono ?_; rintro e w2 ⟨a', c', rfl, ho2, hb2⟩; have HO2 : Hid (RowTm w3.heap.size w2 (nm, sy) a' c' F) := ho2; have HB2 : Hid (Below w.heap.size w w2) := HB3.out.trans (hb2.mono HB3.out.size); clear ho2 hb2))
            go_ret
            refine ⟨_, [⟨(nm, sy), F, a', c'⟩], rfl, Lst.one ⟨(nm, sy), F, a', c'⟩ HB2.out.size (HO2.out.own.mono (fun q _ hq => Nat.le_trans HB3.out.size hq)), (fun h => by simp at h), by rw [e.out]; rfl, HB2.out.alloc HB2.out.size _⟩
          · have e : Hid (partsN (sgOf l) f ((nm, sy), F) = kidsL F) := by show _ = _; rw [REST.out hun.out]; unfold headed noName; rw [hn, hs]; simp
            go_enter Tryz.func47, Tryz.ntmps47
            rw [hj] at HJ
            go_wp2_with (first
              | (go_at_call 30; refine (HJ.out _ hlow.out).mono ?_; rintro e w1 ⟨rfl, hb1⟩; have HB1 : Hid (Below w.heap.size w w1) := hlow.out.trans (hb1.mono (by simp)); have hbx := hb.below hb1; have HBX : Hid (TBox w1 w.heap.size (nm, sy) ta (lenF F) tc) := hbx; have c0 := hbx.c0; have c1 := hbx.c1; have c2 := hbx.c2; clear hb1 hbx)
              | (go_at_call 48; refine (HU.out _ HB1.out).mono ?_; rintro e w9 ⟨he, hw9⟩; unfold UnitRet at he; rw [hui, huo] at he; subst he; rw [hw9]; clear hw9)
              | (go_at_call 74; refine (HC.out _ _).mono ?_; rintro e w3 ⟨he, hb3⟩; rw [hcu] at he; subst he; have HB3 : Hid (Below w.heap.size w w3) := HB1.out.trans (hb3.mono HB1.out.size); have hby := HBX.out.below hb3; have d0 := hby.c0; have d1 := hby.c1; have d2 := hby.c2; clear hb3 hby)
              | (go_at_call 52; refine (HK.out _ HB3.out).mono ?_; rintro e w2 ⟨v, ks, rfl, ho2, hn2, hm2, hb2⟩; have HO2 : Hid (Lst w.heap.size w2 v ks) := ho2.base HB3.out.size; have HN2 : Hid (ks = [] → v = .slice none 0 0) := hn2; have HM2 : Hid (ks.map Kv.tn = kidsL F) := hm2; have HB2 : Hid (Below w.heap.size w w2) := HB3.out.trans (hb2.mono HB3.out.size); clear ho2 hn2 hm2 hb2))
            go_ret
            refine ⟨v, ks, rfl, HO2.out, HN2.out, by rw [HM2.out, e.out], HB2.out⟩
      · have e : Hid (partsN (sgOf l) f ((nm, sy), F) = []) := NONE.out (by rw [hcc.out, hcu])
        go_enter Tryz.func47, Tryz.ntmps47
        rw [hj] at HJ
        go_wp2_with (first
          | (go_at_call 30; refine (HJ.out _ hlow.out).mono ?_; rintro e w1 ⟨rfl, hb1⟩; have HB1 : Hid (Below w.heap.size w w1) := hlow.out.trans (hb1.mono (by simp)); have hbx := hb.below hb1; have HBX : Hid (TBox w1 w.heap.size (nm, sy) ta (lenF F) tc) := hbx; have c0 := hbx.c0; have c1 := hbx.c1; have c2 := hbx.c2; clear hb1 hbx)
          | (go_at_call 48; refine (HU.out _ HB1.out).mono ?_; rintro e w9 ⟨he, hw9⟩; unfold UnitRet at he; rw [hui, huo] at he; subst he; rw [hw9]; clear hw9)
          | (go_at_call 74; refine (HC.out _ _).mono ?_; rintro e w3 ⟨he, hb3⟩; rw [hcu] at he; subst he; have HB3 : Hid (Below w.heap.size w w3) := HB1.out.trans (hb3.mono HB1.out.size); have hby := HBX.out.below hb3; have d0 := hby.c0; have d1 := hby.c1; have d2 := hby.c2; clear hb3 hby))
        go_ret
        exact ⟨_, [], rfl, Lst.nil _ _, fun _ => rfl, by rw [e.out]; rfl, HB3.out⟩
end Go.Proofs.YtokbgbbkopmngaaGreat
/- What the document's Join and Canon answer, of any terms. -/
namespace Go.Proofs.YtokbgbbkopmngaaGreat
open Go.RowKit Go.Deep

set_option maxRecDepth 100000 in
/-- A list that is done, as a term's. -/
theorem Lst.term {B : Nat} {W : World} {v : Value} {ks : List Kv} {F : Fo} (x : ByteArray × Int) (h : Lst B W v ks) (hk : ks.map Kv.tn = kidsL F) (hx : x.1.size ≤ maxLen) (hf : lenF F * 48 ≤ 140737488351232) :
    ∃ a c, v = .slice a (lenF F) c ∧ OwnTm false (fun q => B ≤ q) W x a c F := by
  have hl : ks.length = lenF F := by have := congrArg List.length hk; rwa [List.length_map, kids_len] at this
  rcases h.row.2 with ⟨hv, h0⟩ | ⟨g, cap, cur, hv, hb, hg, hnc, hcm, hsz, hcur⟩
  · refine ⟨none, 0, by rw [← hl, h0]; exact hv, ⟨⟨hx, by omega, by simp, hf⟩, .inl ⟨len_nil (by omega), rfl⟩⟩⟩
  · have hrow := h.row
    rw [hv] at hrow
    refine ⟨_, cap, by rw [← hl]; exact hv, ⟨⟨hx, by omega, hcm, hf⟩, .inr ⟨g, cur, rfl, hb, hg, (fun e => by cases e), ownKids_of F ks 0 hk (owns_at hrow) (fun k hk => (h.own k hk).mono (fun q _ hq => hq.1))⟩⟩⟩
set_option maxRecDepth 100000 in
/-- What comes out of Parts: nil, or some. -/
theorem Lst.shape {B : Nat} {W : World} {v : Value} {ms : List Kv} (h : Lst B W v ms) (hn : ms = [] → v = .slice none 0 0) : ∃ a c, v = .slice a ms.length c ∧ RowAt W a ms.length ms ∧ (a = none → c = 0) ∧ (a ≠ none → 0 < ms.length) := by
  obtain ⟨a, c, rfl, _, _, h3, h4, _⟩ := row_of_owns h.row
  refine ⟨a, c, rfl, h3, fun e => (h4 e).2, fun e => ?_⟩
  cases ms with
  | nil => cases hn rfl; exact absurd rfl e
  | cons k r => simp
set_option maxRecDepth 100000 in
/-- What Sorted makes of a list. -/
theorem Lst.sorted {B : Nat} {W W' : World} {v v' : Value} {ks out : List Kv} (h : Lst B W v ks) (hB : B ≤ W.heap.size) (hb : Below W.heap.size W W') (ho : W'.ownsRow W.heap.size 26 3 v' out.length (kvCells out)) (hin : ∀ k ∈ out, k ∈ ks) : Lst B W' v' out := by
  refine ⟨owns_base ho hB, fun k hk => ?_⟩
  have h2 : OwnTm false (fun q => B ≤ q ∧ some q ≠ v'.ownBlock) W k.x k.a k.c k.l := (h.own k (hin k hk)).mono (fun q hq hp => ⟨hp.1, fun e => by have := (owns_cells ho e.symm).1; omega⟩)
  exact h2.below hb
def zeroT : Tn := ((noB, 0), .nil)
/-- One term, in new memory. -/
def JoinRet (B : Nat) (W : World) (r : Option Tn) (e : Ending) : Prop :=
  ∃ a c, e = .returned (.tuple #[.agg #[.string (r.getD zeroT).1.1, .int .i64 (r.getD zeroT).1.2, .slice a (lenF (r.getD zeroT).2) c], .bool r.isSome]) ∧ OwnTm false (fun q => B ≤ q) W (r.getD zeroT).1 a c (r.getD zeroT).2
def CanonOk (S : Option Addr) (n cap : Nat) (l : List Sym) (k : Nat) : Prop := ∀ (t : Tn) (a : Option Addr) (c : Nat) (w : World), nodesF t.2 ≤ k → SigAt w S n l → TmAt w t.1 a c t.2 →
  Calls Tryz.prog 19 #[.slice S n cap, .agg #[.string t.1.1, .int .i64 t.1.2, .slice a (lenF t.2) c]] w fun e w' => ∃ a' c', e = .returned (.agg #[.string (canonT (sgOf l) t).1.1, .int .i64 (canonT (sgOf l) t).1.2, .slice a' (lenF (canonT (sgOf l) t).2) c']) ∧ OwnTm false (fun q => w.heap.size ≤ q) w' (canonT (sgOf l) t).1 a' c' (canonT (sgOf l) t).2 ∧ Below w.heap.size w w'
def JoinOk (S : Option Addr) (n cap : Nat) (l : List Sym) (k : Nat) : Prop := ∀ (f : Int) (F : Fo) (a : Option Addr) (c : Nat) (w : World), nodesF F ≤ k → SigAt w S n l → ArgsAt w a F →
  Calls Tryz.prog 31 #[.slice S n cap, .int .i64 f, .slice a (lenF F) c] w fun e w' => JoinRet w.heap.size w' (joinN (sgOf l) f (canonL (sgOf l) F)) e ∧ Below w.heap.size w w'

set_option maxRecDepth 100000 in
theorem sizes_len : ∀ l : List Tn, l.length ≤ sizes l
  | [] => Nat.le_refl _
  | t :: r => by rw [sizes_cons, List.length_cons]; have := sizes_len r; unfold sizeT; omega
set_option maxRecDepth 100000 in
theorem sizes_take (l : List Tn) (j : Nat) : sizes (l.take j) ≤ sizes l := by
  have := sizes_append (l.take j) (l.drop j)
  rw [List.take_append_drop] at this
  omega
set_option maxRecDepth 100000 in
/-- How many parts there are, at most. -/
theorem flat_few (S : Sg) (f : Int) (F : Fo) (j : Nat) : (((canonL S F).take j).flatMap (partsN S f)).length ≤ nodesF F :=
  Nat.le_trans (sizes_len _) (Nat.le_trans (flat_size S f _) (Nat.le_trans (sizes_take _ j) (canonL_size S F)))
set_option maxRecDepth 100000 in
theorem canonL_take {S : Sg} {F : Fo} {k : Nat} {x : ByteArray × Int} {m : Fo} {B O : Nat} {r : Fo} (h : dropF k F = .node B O x m r) : (canonL S F).take (k + 1) = (canonL S F).take k ++ [canonT S (x, m)] := by
  rw [canonL_map, ← List.map_take, ← List.map_take, kids_take h]
  simp
set_option maxRecDepth 100000 in
/-- The answer, in the box that is the function's. -/
theorem ret_join {fn : Func} {R : Ending → World → Prop} {a : Act} {w : World} {p u B : Nat} {x : ByteArray × Int} {v : Value} (h : fn.results = #[.cell p 26, .tmp u]) (hp : a.tmps.getD p undef = .pointer (some ⟨B, 0, none⟩))
    (hx : XBox w B x v) (hd : a.defers = []) (hR : R (.returned (.tuple #[.agg #[.string x.1, .int .i64 x.2, v], a.tmps.getD u undef])) w) : bodyPost Tryz.prog fn R .ret a w := by
  refine bodyPost_ret ?_ hd hR
  rw [results_cell_tmp h, hp]
  rw [show (asAddr (.pointer (some ⟨B, 0, none⟩))).run Tryz.prog w = .ok ⟨B, 0, none⟩ w from rfl]
  simp only [Result.andThen_ok, run_loadVar_row w B 26 26 _ (0, 0) _ hx Tryz.underlying26 rfl Tryz.size26]
set_option maxRecDepth 100000 in
theorem own_nil {P : Nat → Prop} (W : World) (x : ByteArray × Int) (hx : x.1.size ≤ maxLen) : OwnTm false P W x none 0 .nil := ⟨⟨hx, Nat.le_refl _, by simp, by simp [lenF]⟩, .inl ⟨rfl, rfl⟩⟩
set_option maxRecDepth 100000 in
theorem OwnTm.sets {W : World} {B : Nat} {x : ByteArray × Int} {a : Option Addr} {c : Nat} {F : Fo} (h : OwnTm false (fun q => B + 1 ≤ q) W x a c F) (u v t : Value) : OwnTm false (fun q => B ≤ q) (((W.setCell ⟨B, 0, none⟩ u).setCell ⟨B, 1, none⟩ v).setCell ⟨B, 2, none⟩ t) x a c F :=
  (h.keep (fun q hq _ => sets_far (by omega) _ _ _)).mono (fun q _ hq => by omega)

set_option maxRecDepth 100000 in
set_option maxHeartbeats 2000000 in
theorem join_of {S : Option Addr} {n cap : Nat} {l : List Sym} {k : Nat} (hk : k ≤ 1048576) (ih : ∀ j, j < k → CanonOk S n cap l j) : JoinOk S n cap l k := by
  intro f F a c w hF hS hA
  have HS : Hid (SigAt w S n l) := hS
  have HA : Hid (ArgsAt w a F) := hA
  have IH : Hid (∀ j, j < k → CanonOk S n cap l j) := ih
  have HJ : Hid (∀ W, Below w.heap.size w W → Calls Tryz.prog 30 #[.slice S n cap, .int .i64 f] W fun e w' => e = .returned (.bool (joinsAt l f)) ∧ Below W.heap.size W w') := fun W hW => joins_any S n cap l f W (HS.out.below hW)
  have HU : Hid (∀ W, Below w.heap.size w W → Calls Tryz.prog 48 #[.slice S n cap, .int .i64 f] W fun e w' => UnitRet l f e ∧ w' = W) := fun W hW => runit_any S n cap l f W (HS.out.below hW)
  have HX0 : Hid (XBox (w.alloc (.cells #[.string ⟨#[]⟩, .int .i64 0, .slice none 0 0] 26)) w.heap.size (⟨#[]⟩, 0) (.slice none 0 0)) := World.alloc_heap_new w _
  have HB0 : Hid (Below w.heap.size w (w.alloc (.cells #[.string ⟨#[]⟩, .int .i64 0, .slice none 0 0] 26))) := (Below.refl _ w).alloc (Nat.le_refl _) _
  have hlF : lenF F ≤ 1048576 := Nat.le_trans (len_nodes F) (Nat.le_trans hF hk)
  clear hS hA ih
  cases hj : joinsAt l f
  · have e : Hid (joinN (sgOf l) f (canonL (sgOf l) F) = none) := by show _ = _; unfold joinN; rw [if_pos (show (sgOf l).joins f = false from hj)]
    rw [hj] at HJ
    go_enter Tryz.func31, Tryz.ntmps31
    go_wp2_with (first
      | (go_at_call 30; refine (HJ.out _ HB0.out).mono ?_; rintro e w1 ⟨rfl, hb1⟩; have HB1 : Hid (Below w.heap.size w w1) := HB0.out.trans (hb1.mono (by simp)); have hbx := HX0.out.below hb1; have HBX : Hid (XBox w1 w.heap.size (⟨#[]⟩, 0) (.slice none 0 0)) := hbx; have r0 := hbx.c0; have r1 := hbx.c1; have r2 := hbx.c2; have f0 := hbx.f (k := 0); have f1 := hbx.f (k := 1); have f2 := hbx.f (k := 2); clear hb1 hbx))
    refine ret_join (p := 6) (u := 7) rfl rfl (HBX.out.all (x := (⟨#[]⟩, 0)) (.slice none 0 0)) rfl ?_
    refine ⟨⟨none, 0, by rw [e.out]; rfl, ?_⟩, sets_below HB1.out (Nat.le_refl _) _ _ _⟩
    rw [e.out]
    exact (own_nil _ _ (by decide)).sets _ _ _
  · have e : Hid (joinN (sgOf l) f (canonL (sgOf l) F) = joinL (sgOf l) f ((canonL (sgOf l) F).flatMap (partsN (sgOf l) f))) := by show _ = _; unfold joinN; rw [if_neg (show ¬ (sgOf l).joins f = false by show ¬ joinsAt l f = false; rw [hj]; simp)]
    rw [hj] at HJ
    go_enter Tryz.func31, Tryz.ntmps31
    go_wp2_with (first
      | (go_at_call 30; refine (HJ.out _ HB0.out).mono ?_; rintro e w1 ⟨rfl, hb1⟩; have HB1 : Hid (Below w.heap.size w w1) := HB0.out.trans (hb1.mono (by simp)); have HX1 : Hid (XBox w1 w.heap.size (⟨#[]⟩, 0) (.slice none 0 0)) := HX0.out.below hb1; clear hb1))
    go_loopw [8, 9] (fun ov i wr => ∃ (j : Nat) (v : Value) (ks : List Kv), j ≤ lenF F ∧ v = ov ∧ i = .int .i64 j ∧ Lst (w.heap.size + 1) wr v ks ∧ XBox wr w.heap.size (⟨#[]⟩, 0) (.slice none 0 0) ∧ ks.map Kv.tn = ((canonL (sgOf l) F).take j).flatMap (partsN (sgOf l) f) ∧ Below w.heap.size w wr) (fun _ i _ => lenF F - (intOf i).toNat)
    case atStart => exact ⟨0, _, [], Nat.zero_le _, rfl, rfl, Lst.nil _ _, HX1.out, by simp, HB1.out⟩
    case round =>
      obtain ⟨j, v, ks, hj, rfl, rfl, hL, hX, hmap, hlow⟩ := hrel
      have HL : Hid (Lst (w.heap.size + 1) wr v ks) := hL
      have HX : Hid (XBox wr w.heap.size (⟨#[]⟩, 0) (.slice none 0 0)) := hX
      have HM : Hid (ks.map Kv.tn = ((canonL (sgOf l) F).take j).flatMap (partsN (sgOf l) f)) := hmap
      have HB : Hid (Below w.heap.size w wr) := hlow
      have hxl : w.heap.size + 1 ≤ wr.heap.size := hX.lt
      clear hL hX hmap hlow
      by_cases hlt : j < lenF F
      · obtain ⟨bb, oo, rfl, hkk⟩ := HA.out.get (by omega)
        obtain ⟨y, a1, c1, l1, kd⟩ := hkk.kid (k := j) hlt
        have kd' := kd.below HB.out
        have p0 := kd'.name; have p1 := kd'.sym; have p2 := kd'.list
        have KD : Hid (Kid wr F bb oo j y a1 c1 l1) := kd'
        have hj0 : (0 : Int) ≤ (j : Int) := by omega
        have hjn : (j : Int) < (lenF F : Int) := by omega
        clear kd kd' hkk
        obtain ⟨ct, hct⟩ : ∃ ct, canonT (sgOf l) (y, l1) = ct := ⟨_, rfl⟩
        have HC : Hid (∀ W, Below wr.heap.size wr W → Calls Tryz.prog 19 #[.slice S n cap, .agg #[.string y.1, .int .i64 y.2, .slice a1 (lenF l1) c1]] W fun e w' => ∃ a' c', e = .returned (.agg #[.string ct.1.1, .int .i64 ct.1.2, .slice a' (lenF ct.2) c']) ∧ OwnTm false (fun q => W.heap.size ≤ q) w' ct.1 a' c' ct.2 ∧ Below W.heap.size W w') := fun W hW => by
          have := IH.out (nodesF l1) (by have := KD.out.less; omega) (y, l1) a1 c1 W (Nat.le_refl _) ((HS.out.below HB.out).below hW) (KD.out.at_.below hW)
          rw [hct] at this
          exact this
        have HCT : Hid (canonT (sgOf l) (y, l1) = ct) := hct
        clear hct
        go_wp2_with (first
          | (go_at_call 19; refine (HC.out _ (Below.refl _ _)).mono ?_; rintro e w2 ⟨a', c', rfl, ho2, hb2⟩; have HO2 : Hid (OwnTm false (fun q => wr.heap.size ≤ q) w2 ct.1 a' c' ct.2) := ho2; have HB2 : Hid (Below wr.heap.size wr w2) := hb2; clear ho2 hb2)
          | (go_at_call 47; refine (parts_any S n cap l f ct a' c' w2 ((HS.out.below HB.out).below HB2.out) HO2.out.tm).mono ?_; rintro e w3 ⟨v3, ms, rfl, ho3, hn3, hm3, hb3⟩; obtain ⟨a3, c3, rfl, hr3, hnil3, hsome3⟩ := ho3.shape hn3; have HO3 : Hid (∀ q ∈ ms, OwnTm false (fun q => wr.heap.size ≤ q) w3 q.x q.a q.c q.l) := fun q hq => (ho3.own q hq).mono (fun b _ hb => Nat.le_trans HB2.out.size hb.1); have HB3 : Hid (Below wr.heap.size wr w3) := HB2.out.trans (hb3.mono HB2.out.size); have HM3 : Hid (ms.map Kv.tn = partsN (sgOf l) f ct) := hm3; have HR3 : Hid (RowAt w3 a3 ms.length ms) := hr3; have HN3 : Hid ((a3 = none → c3 = 0) ∧ (a3 ≠ none → 0 < ms.length)) := ⟨hnil3, hsome3⟩; have HMM : Hid ((ks ++ ms).map Kv.tn = ((canonL (sgOf l) F).take (j + 1)).flatMap (partsN (sgOf l) f)) := (by show _ = _; obtain ⟨B1, O1, sp⟩ := KD.out.split; rw [canonL_take sp, List.flatMap_append, ← HM.out, HCT.out, List.map_append, hm3]; simp); have hfew : ks.length + ms.length ≤ 1048576 := (by have h1 := flat_few (sgOf l) f F (j + 1); rw [← HMM.out, List.length_map, List.length_append] at h1; omega); clear ho3 hn3 hm3 hb3 hr3 hnil3 hsome3)
          | (at_builtin; refine wpList_append_lst rfl _ _ rfl (w.heap.size + 1) v ks rfl (owns_below HL.out.row HB3.out) a3 ms.length c3 ms rfl HR3.out HN3.out.1 HN3.out.2 (by omega) (by have := HB3.out.size; omega) ?_; intro v4 w4 hown4 hgrow4 hat4; have HL4 : Hid (Lst (w.heap.size + 1) w4 v4 (ks ++ ms)) := HL.out.grow HB3.out HO3.out hxl hgrow4 hat4 hown4; have HX4 : Hid (XBox w4 w.heap.size (⟨#[]⟩, 0) (.slice none 0 0)) := (HX.out.below HB3.out).kept hgrow4 (fun e => by have := (owns_cells HL.out.row e.symm).1; omega); have HB4 : Hid (Below w.heap.size w w4) := HB.out.trans ((HB3.out.mono HB.out.size).grown hgrow4 (by have := HB3.out.size; omega) (fun k e => by have := (owns_cells HL.out.row e).1; omega)); clear hown4 hgrow4 hat4))
        go_roundw
        case rel => exact ⟨j + 1, v4, ks ++ ms, by omega, rfl, by go_num, HL4.out, HX4.out, HMM.out, HB4.out⟩
        case measure => simp [intOf]; omega
      · obtain rfl : j = lenF F := by omega
        have HM' : Hid (ks.map Kv.tn = (canonL (sgOf l) F).flatMap (partsN (sgOf l) f)) := by
          have := HM.out
          rwa [List.take_of_length_le (by rw [canonL_map, List.length_map, kids_len]; exact Nat.le_refl _)] at this
        have hfew : ks.length ≤ 1048576 := by
          have h1 := flat_few (sgOf l) f F (lenF F)
          rw [← HM.out, List.length_map] at h1
          omega
        obtain ⟨oa, ocap, rfl, hoc, hocm, hot, honil, hosome⟩ := row_of_owns HL.out.row
        have HOT : Hid (RowAt wr oa ks.length ks) := hot
        have hbx := HX.out
        have r0 := hbx.c0; have r1 := hbx.c1; have r2 := hbx.c2; have f0 := hbx.f (k := 0); have f1 := hbx.f (k := 1); have f2 := hbx.f (k := 2)
        clear hbx hot HM
        rcases ks with _ | ⟨k1, _ | ⟨k2, r⟩⟩
        · cases huo : unitOk l f
          · have e2 : Hid (joinN (sgOf l) f (canonL (sgOf l) F) = none) := by
              show _ = _
              rw [e.out, ← HM'.out]
              unfold unitOk at huo
              show ((unitAt l f).map _).map constT = none
              cases hq : unitAt l f with
              | none => rfl
              | some i => rw [hq] at huo; simp at huo
            have HO : Hid (unitOk l f = false) := huo
            obtain ⟨ui, hui⟩ : ∃ ui, unitI l f = ui := ⟨_, rfl⟩
            have HI : Hid (unitI l f = ui) := hui
            clear huo hui
            go_wp2_with (first
              | (go_at_call 48; refine (HU.out _ HB.out).mono ?_; rintro e w9 ⟨he, hw9⟩; unfold UnitRet at he; rw [HI.out, HO.out] at he; subst he; rw [hw9]; clear hw9))
            refine ret_join (p := 6) (u := 7) rfl rfl (HX.out.all (x := (⟨#[]⟩, 0)) (.slice none 0 0)) rfl ?_
            refine ⟨⟨none, 0, by rw [e2.out]; rfl, ?_⟩, sets_below HB.out (Nat.le_refl _) _ _ _⟩
            rw [e2.out]
            exact (own_nil _ _ (by decide)).sets _ _ _
          · have HO : Hid (unitOk l f = true) := huo
            obtain ⟨ui, hui⟩ : ∃ ui, unitI l f = ui := ⟨_, rfl⟩
            have e2 : Hid (joinN (sgOf l) f (canonL (sgOf l) F) = some (constT ui)) := by
              show _ = _
              rw [e.out, ← HM'.out, ← hui]
              unfold unitOk at huo
              show ((unitAt l f).map _).map constT = _
              cases hq : unitAt l f with
              | none => rw [hq] at huo; simp at huo
              | some i => simp [unitI, hq]
            have HI : Hid (unitI l f = ui) := hui
            clear huo hui
            go_wp2_with (first
              | (go_at_call 48; refine (HU.out _ HB.out).mono ?_; rintro e w9 ⟨he, hw9⟩; unfold UnitRet at he; rw [HI.out, HO.out] at he; subst he; rw [hw9]; clear hw9))
            refine ret_join (p := 6) (u := 7) rfl rfl (HX.out.all (x := (⟨#[]⟩, ui)) (.slice none 0 0)) rfl ?_
            refine ⟨⟨none, 0, by rw [e2.out]; rfl, ?_⟩, sets_below HB.out (Nat.le_refl _) _ _ _⟩
            rw [e2.out]
            exact (own_nil _ _ (show noB.size ≤ maxLen by decide)).sets _ _ _
        · have e2 : Hid (joinN (sgOf l) f (canonL (sgOf l) F) = some (k1.x, k1.l)) := by show _ = _; rw [e.out, ← HM'.out]; rfl
          have HO1 : Hid (OwnTm false (fun q => w.heap.size + 1 ≤ q) wr k1.x k1.a k1.c k1.l) := (HL.out.own k1 (by simp)).mono (fun q _ hq => hq.1)
          obtain ⟨b, off, rfl, s0, s1, s2⟩ := HOT.out.get (j := 0) (k := k1) rfl
          obtain ⟨_, rfl, _⟩ := hosome _ _ _ rfl
          simp only [Nat.zero_mul, Nat.zero_add, Nat.add_zero] at s0 s1 s2
          clear honil hosome
          go_wp2
          refine ret_join (p := 6) (u := 7) rfl rfl (HX.out.all (x := k1.x) (.slice k1.a (lenF k1.l) k1.c)) rfl ?_
          refine ⟨⟨k1.a, k1.c, by rw [e2.out]; rfl, ?_⟩, sets_below HB.out (Nat.le_refl _) _ _ _⟩
          rw [e2.out]
          exact HO1.out.sets _ _ _
        · have e2 : Hid (joinN (sgOf l) f (canonL (sgOf l) F) = some ((noB, f), mkF (sortN ((k1 :: k2 :: r).map Kv.tn)))) := by show _ = _; rw [e.out, ← HM'.out]; rfl
          obtain ⟨ks, hks⟩ : ∃ ks, k1 :: k2 :: r = ks := ⟨_, rfl⟩
          have hlen : ks.length = r.length + 2 := by rw [← hks]; rfl
          clear honil hosome
          rw [hks] at e2 HM' hfew HL hoc HOT ⊢
          have HSo := sorted_any oa ks.length ocap ks wr HOT.out (fun q hq => (HL.out.own q hq).tm) (by omega)
          have HSO : Hid (Calls Tryz.prog 49 #[.slice oa ks.length ocap] wr fun e w' => ∃ v out, e = .returned v ∧ w'.ownsRow wr.heap.size 26 3 v out.length (kvCells out) ∧ (∀ k ∈ out, k ∈ ks) ∧ out.map Kv.tn = sortN (ks.map Kv.tn) ∧ Below wr.heap.size wr w') := HSo
          clear HSo hks
          obtain ⟨m, hm⟩ : ∃ m, ks.length = m := ⟨_, rfl⟩
          rw [hm] at HSO hfew hlen hoc ⊢
          have hm1 : ((m : Int) == 1) = false := by simp; omega
          have hm0 : ((m : Int) == 0) = false := by simp; omega
          clear hlen
          have HMm : Hid (ks.length = m) := hm
          clear hm
          go_wp2_with (first
            | (go_at_call 49; refine HSO.out.mono ?_; rintro e w5 ⟨v5, out, rfl, ho5, hi5, hm5, hb5⟩; have hl5 := HL.out.sorted hxl hb5 ho5 hi5; obtain ⟨a5, c5, rfl, hown5⟩ := hl5.term (F := mkF (sortN (ks.map Kv.tn))) (noB, f) (by rw [hm5, kids_mk]) (show noB.size ≤ maxLen by decide) (by rw [len_mk, sortN_len, List.length_map, HMm.out]; omega); have HO5 : Hid (OwnTm false (fun q => w.heap.size + 1 ≤ q) w5 (noB, f) a5 c5 (mkF (sortN (ks.map Kv.tn)))) := hown5; have HX5 : Hid (XBox w5 w.heap.size (⟨#[]⟩, 0) (.slice none 0 0)) := HX.out.below hb5; have HB5 : Hid (Below w.heap.size w w5) := HB.out.trans (hb5.mono HB.out.size); clear r0 r1 r2 f0 f1 f2; have r0 := HX5.out.c0; have r1 := HX5.out.c1; have r2 := HX5.out.c2; have f0 := HX5.out.f (k := 0); have f1 := HX5.out.f (k := 1); have f2 := HX5.out.f (k := 2); clear ho5 hi5 hm5 hb5 hl5 hown5))
          refine ret_join (p := 6) (u := 7) rfl rfl (HX5.out.all (x := (⟨#[]⟩, f)) (.slice a5 (lenF (mkF (sortN (ks.map Kv.tn)))) c5)) rfl ?_
          refine ⟨⟨a5, c5, by rw [e2.out]; rfl, ?_⟩, sets_below HB5.out (Nat.le_refl _) _ _ _⟩
          rw [e2.out]
          exact HO5.out.sets _ _ _
end Go.Proofs.YtokbgbbkopmngaaGreat
/- What the document's Canon answers, of any term. -/
namespace Go.Proofs.YtokbgbbkopmngaaGreat
open Go.RowKit Go.Deep

set_option maxRecDepth 100000 in
set_option maxHeartbeats 2000000 in
theorem canon_of {S : Option Addr} {n cap : Nat} {l : List Sym} {k : Nat} (ih : ∀ j, j < k → CanonOk S n cap l j) (hJ : JoinOk S n cap l k) : CanonOk S n cap l k := by
  rintro ⟨⟨nm, sy⟩, F⟩ a c w hF hS hT
  have HS : Hid (SigAt w S n l) := hS
  have HT : Hid (TmAt w (nm, sy) a c F) := hT
  have IH : Hid (∀ j, j < k → CanonOk S n cap l j) := ih
  have HJ : Hid (∀ W, Below w.heap.size w W → Calls Tryz.prog 30 #[.slice S n cap, .int .i64 sy] W fun e w' => e = .returned (.bool (joinsAt l sy)) ∧ w' = W) := fun W hW => joins_still S n cap l sy W (HS.out.below hW)
  have HJo : Hid (∀ W, Below w.heap.size w W → Calls Tryz.prog 31 #[.slice S n cap, .int .i64 sy, .slice a (lenF F) c] W fun e w' => JoinRet W.heap.size w' (joinN (sgOf l) sy (canonL (sgOf l) F)) e ∧ Below W.heap.size W w') := fun W hW => hJ sy F a c W hF (HS.out.below hW) (HT.out.args.below hW)
  have HB0 : Hid (Below w.heap.size w ((w.alloc (.cells #[.string nm, .int .i64 sy, .slice a (lenF F) c] 26)).alloc (.cells #[.string ⟨#[]⟩, .int .i64 0, .slice none 0 0] 26))) := ((Below.refl _ w).alloc (Nat.le_refl _) _).alloc (by simp) _
  have hfew := HT.out.sizes.few
  have hnm := HT.out.sizes.name
  clear hS hT ih hJ
  cases hn : nm.toList.isEmpty
  · have e : Hid (canonT (sgOf l) ((nm, sy), F) = ((nm, 0), .nil)) := by show _ = _; unfold canonT canon1; rw [if_pos (show noName ((nm, sy), F).1.1 = false from hn)]
    have HBn : Hid (Below w.heap.size w ((w.alloc (.cells #[.string nm, .int .i64 sy, .slice a (lenF F) c] 26)).alloc (.cells #[.string nm, .int .i64 0, .slice none 0 0] 26))) := ((Below.refl _ w).alloc (Nat.le_refl _) _).alloc (by simp) _
    go_enter Tryz.func19, Tryz.ntmps19
    go_wp2
    refine bodyPost_ret (results_cell_row rfl _ _ (w.heap.size + 1) 26 #[.string nm, .int .i64 0, .slice none 0 0] (0, 0) _ rfl (heap_alloc2_new w _ _) Tryz.underlying26 rfl Tryz.size26) rfl ?_
    refine ⟨none, 0, by rw [e.out]; rfl, ?_, HBn.out⟩
    rw [e.out]
    exact own_nil _ _ hnm
  · have hnb : nm = noB := noName_eq hn
    subst hnb
    have HXt : Hid (TBox ((w.alloc (.cells #[.string noB, .int .i64 sy, .slice a (lenF F) c] 26)).alloc (.cells #[.string ⟨#[]⟩, .int .i64 0, .slice none 0 0] 26)) w.heap.size (noB, sy) a (lenF F) c) := (TBox.new w (noB, sy) a (lenF F) c).below ((Below.refl _ _).alloc (Nat.le_refl _) _)
    have HXr : Hid (XBox ((w.alloc (.cells #[.string noB, .int .i64 sy, .slice a (lenF F) c] 26)).alloc (.cells #[.string ⟨#[]⟩, .int .i64 0, .slice none 0 0] 26)) (w.heap.size + 1) (⟨#[]⟩, 0) (.slice none 0 0)) := heap_alloc2_new w _ _
    cases hj : joinsAt l sy
    · obtain ⟨G, hG⟩ : ∃ G, mkF (canonL (sgOf l) F) = G := ⟨_, rfl⟩
      have e : Hid (canonT (sgOf l) ((noB, sy), F) = ((noB, sy), G)) := by show _ = _; unfold canonT canon1; rw [if_neg (show ¬ noName ((noB, sy), F).1.1 = false by show ¬ noName noB = false; rw [noName_noB]; simp), if_neg (show ¬ (sgOf l).joins ((noB, sy), F).1.2 = true by show ¬ joinsAt l sy = true; rw [hj]; simp), hG]
      have HGk : Hid (kidsL G = canonL (sgOf l) F) := by show _ = _; rw [← hG, kids_mk]
      have hGl : lenF G = lenF F := by rw [← hG, len_mk, canonL_map, List.length_map, kids_len]
      obtain ⟨i0, hi, hz0, hz1, hz2⟩ := info_parts Tryz.info26
      rw [hj] at HJ
      clear hG
      go_enter Tryz.func19, Tryz.ntmps19
      go_wp2_with (first
        | (go_at_call 30; refine (HJ.out _ HB0.out).mono ?_; rintro e w9 ⟨rfl, hw9⟩; rw [hw9]; clear hw9))
      go_loopw [8] (fun i wr => ∃ (j : Nat) (v : Value) (ks : List Kv), j ≤ lenF F ∧ i = .int .i64 j ∧ Three w (noB, sy) a (lenF F) c wr v ∧ Built false w wr v j ks ∧ ks.map (fun k => (k.x, k.l)) = (canonL (sgOf l) F).take j) (fun i _ => lenF F - (intOf i).toNat)
      case atStart => exact ⟨0, _, [], Nat.zero_le _, rfl, Three.new w (noB, sy) a (lenF F) c, ⟨World.ownsRow_nil _ _ _ _, by simp⟩, by simp⟩
      case round =>
        obtain ⟨j, v, ks, hj, rfl, hTh, hBu, hks⟩ := hrel
        have hb := hTh.low
        have bT := hTh.t
        have bX := hTh.x
        have hrow := hBu.row
        have t2 := bT.c2
        have hn : lenF F ≤ 9223372036854775807 := by omega
        by_cases hlt : j < lenF F
        · obtain ⟨bb, oo, rfl, hkk⟩ := HT.out.args.get (by omega)
          obtain ⟨y, a1, c1, l1, kd⟩ := hkk.kid (k := j) hlt
          have kd' := kd.below hb
          have X0 : Hid (XBox wr (w.heap.size + 1 + 1) (noB, sy) v) := bX
          have cX := X0.out.c2
          have hbb : bb < w.heap.size := World.block_lt_of_cell? w _ kd.name
          have p0 := kd'.name; have p1 := kd'.sym; have p2 := kd'.list
          obtain ⟨ct, hct⟩ : ∃ ct, canonT (sgOf l) (y, l1) = ct := ⟨_, rfl⟩
          have hIH := IH.out (nodesF l1) (by have := kd.less; omega) (y, l1) a1 c1 wr.drew (Nat.le_refl _) ((HS.out.below hb).below ((Below.refl _ wr).drew)) (kd'.at_.kept (fun _ _ h => h))
          rw [hct] at hIH
          have HIH : Hid (Calls Tryz.prog 19 #[.slice S n cap, .agg #[.string y.1, .int .i64 y.2, .slice a1 (lenF l1) c1]] wr.drew fun e w' => ∃ a' c', e = .returned (.agg #[.string ct.1.1, .int .i64 ct.1.2, .slice a' (lenF ct.2) c']) ∧ OwnTm false (fun q => wr.heap.size ≤ q) w' ct.1 a' c' ct.2 ∧ Below wr.heap.size wr.drew w') := hIH
          have HCT : Hid (canonT (sgOf l) (y, l1) = ct) := hct
          have HR : Hid (wr.ownsRow (w.heap.size + 3) 26 3 v j (kvCells ks)) := hrow
          have HB : Hid (Below w.heap.size w wr) := hb
          have TH : Hid (Three w (noB, sy) (some ⟨bb, oo, none⟩) (lenF F) c wr v) := hTh
          have BU : Hid (Built false w wr v j ks) := hBu
          have HK : Hid (ks.map (fun k => (k.x, k.l)) = (canonL (sgOf l) F).take j) := hks
          have KD : Hid (Kid w F bb oo j y a1 c1 l1) := kd
          have hmax : maxLen = 9223372036854775807 := rfl
          have hXlt : w.heap.size + 1 + 1 < wr.heap.size := X0.out.lt
          clear hIH kd' hkk kd hrow hb hTh hBu hks bT bX hct
          go_wp2_with fail
          go_region_law
            ((first
              | (refine step_append_lies _ (by rfl) _ _ 24 (by rfl) (w.heap.size + 3) 26 i0 _ 3 48 Tryz.underlying24 hi hz0 hz1 hz2 rfl (by decide) v j (kvCells ks) (by rfl) (owns_below (owns_below HR.out HW1.out) ((Below.refl _ _).alloc (Nat.le_refl _) _)) ⟨w1.heap.size, 0, none⟩ 1 1 (Kv.cells ⟨ct.1, ct.2, a', c'⟩) (by rfl) rfl (World.news_of_block (heap_alloc_new w1 _)) (kv_one _) (by decide) (by omega) (by omega) (by have := HW1.out.size; simp; omega) _ rfl ?_; intro g3 cap3 w3 hown3 hgrow3 hat3 hlt3; have X3 : Hid (XBox w3 (w.heap.size + 1 + 1) (noB, sy) v) := X2.out.kept hgrow3 (fun e => by have := (owns_cells HR.out e.symm).1; omega); have cX3 := X3.out.c2; have fX3 := X3.out.f (k := 2); have HO3 : Hid (w3.ownsRow (w.heap.size + 3) 26 3 (.slice (some ⟨g3, 0, none⟩) (j + 1) cap3) (j + 1) (kvCells ks ++ Kv.cells ⟨ct.1, ct.2, a', c'⟩)) := hown3; have HG3 : Hid ((w1.alloc (.cells #[.string ct.1.1, .int .i64 ct.1.2, .slice a' (lenF ct.2) c'] 26)).grownBy w3 v.ownBlock ∧ (v.ownBlock = some g3 ∨ g3 = w1.heap.size + 1)) := ⟨hgrow3, by simpa using hat3⟩; clear hown3 hgrow3 hat3)
              | (go_simp; go_wp2_with (go_at_call 19; refine HIH.out.mono ?_; rintro e w1 ⟨a', c', rfl, ho1, hb1⟩; have HO1 : Hid (OwnTm false (fun k => wr.heap.size ≤ k) w1 ct.1 a' c' ct.2) := ho1; have HW1 : Hid (Below wr.heap.size wr w1) := ((Below.refl _ wr).drew).trans hb1; have X1 : Hid (XBox w1 (w.heap.size + 1 + 1) (noB, sy) v) := X0.out.below HW1.out; have cX1 := X1.out.c2; have X2 : Hid (XBox (w1.alloc (.cells #[.string ct.1.1, .int .i64 ct.1.2, .slice a' (lenF ct.2) c'] 26)) (w.heap.size + 1 + 1) (noB, sy) v) := X1.out.below ((Below.refl _ _).alloc (Nat.le_refl _) _); have cX2 := X2.out.c2; clear ho1 hb1))
              | fail))
          all_goals
            go_wp2
            go_roundw
            case rel =>
              obtain ⟨h1, h2⟩ := build_step (kv := ⟨ct.1, ct.2, a', c'⟩) TH.out BU.out HW1.out HO1.out HG3.out.1 HG3.out.2 HO3.out
              obtain ⟨B1, O1, sp⟩ := KD.out.split
              exact ⟨j + 1, _, _, by omega, by go_num, h1, h2, by rw [canonL_take sp, ← HK.out, HCT.out]; simp⟩
            case measure => simp [intOf]; omega
        · have hjl : j = lenF F := by omega
          subst hjl
          have hks' : ks.map (fun k => (k.x, k.l)) = kidsL G := by rw [hks, HGk.out, List.take_of_length_le (by rw [canonL_map, List.length_map, kids_len]; exact Nat.le_refl _)]
          have hBu' : Built false w wr v (lenF G) ks := by rw [hGl]; exact hBu
          obtain ⟨a3, c3, rfl, hrt⟩ := built_done (x := (noB, sy)) hBu' hks' hnm (by rw [hGl]; exact hfew)
          have x0 := bX.c0; have x1 := bX.c1; have x2 := bX.c2
          have R4 : XBox wr (w.heap.size + 1) (⟨#[]⟩, 0) (.slice none 0 0) := hTh.r
          have r0 := R4.c0
          have r1 := R4.c1
          have r2 := R4.c2
          have f0 := R4.f (k := 0)
          have f1 := R4.f (k := 1)
          have f2 := R4.f (k := 2)
          have HR4 : Hid (XBox wr (w.heap.size + 1) (⟨#[]⟩, 0) (.slice none 0 0)) := R4
          have HL : Hid (Below w.heap.size w wr) := hb
          have HRT : Hid (RowTm (w.heap.size + 3) wr (noB, sy) a3 c3 G) := hrt
          clear R4 hTh hBu hBu' hks hks' hb bT bX hrow hrt
          go_wp2
          refine bodyPost_ret (results_cell_row rfl _ _ (w.heap.size + 1) 26 #[.string noB, .int .i64 sy, .slice a3 (lenF F) c3] (0, 0) _ rfl (HR4.out.all (x := (noB, sy)) _) Tryz.underlying26 rfl Tryz.size26) rfl ?_
          refine ⟨a3, c3, by rw [e.out, hGl], ?_, sets_below HL.out (by omega) _ _ _⟩
          rw [e.out]
          have h5 : OwnTm false (fun q => w.heap.size + 1 + 1 ≤ q) wr (noB, sy) a3 c3 G := HRT.out.own.mono (fun q _ hq => by omega)
          exact (h5.sets _ _ _).mono (fun q _ hq => by omega)
    · have e : Hid (canonT (sgOf l) ((noB, sy), F) = (joinN (sgOf l) sy (canonL (sgOf l) F)).getD (constT sy)) := by show _ = _; unfold canonT canon1; rw [if_neg (show ¬ noName ((noB, sy), F).1.1 = false by show ¬ noName noB = false; rw [noName_noB]; simp), if_pos (show (sgOf l).joins ((noB, sy), F).1.2 = true from hj)]
      rw [hj] at HJ
      obtain ⟨W0, hW0⟩ : ∃ W0, (w.alloc (.cells #[.string noB, .int .i64 sy, .slice a (lenF F) c] 26)).alloc (.cells #[.string ⟨#[]⟩, .int .i64 0, .slice none 0 0] 26) = W0 := ⟨_, rfl⟩
      rw [hW0] at HB0 HXt HXr
      obtain ⟨r, hr⟩ : ∃ r, joinN (sgOf l) sy (canonL (sgOf l) F) = r := ⟨_, rfl⟩
      rw [hr] at e HJo
      clear hr
      have t0 := HXt.out.c0; have t1 := HXt.out.c1; have t2 := HXt.out.c2
      have hz0 : W0.heap.size = w.heap.size + 1 + 1 := by rw [← hW0]; simp
      cases r with
      | none =>
        go_enter Tryz.func19, Tryz.ntmps19
        go_wp2_with (first
          | (rw [hW0])
          | (go_at_call 30; refine (HJ.out _ HB0.out).mono ?_; rintro e w9 ⟨rfl, hw9⟩; rw [hw9]; clear hw9)
          | (go_at_call 31; refine (HJo.out _ HB0.out).mono ?_; rintro e w2 ⟨⟨a2, c2, rfl, ho2⟩, hb2⟩; have HO2 : Hid (OwnTm false (fun q => w.heap.size + 1 + 1 ≤ q) w2 zeroT.1 a2 c2 zeroT.2) := ho2.mono (fun q _ hq => by rw [hz0] at hq; exact hq); have hba : Below w2.heap.size w2 (w2.alloc (.cells #[.string zeroT.1.1, .int .i64 zeroT.1.2, .slice a2 (lenF zeroT.2) c2] 26)) := (Below.refl _ _).alloc (Nat.le_refl _) _; have HB3 : Hid (Below w.heap.size w (w2.alloc (.cells #[.string zeroT.1.1, .int .i64 zeroT.1.2, .slice a2 (lenF zeroT.2) c2] 26))) := HB0.out.trans ((hb2.trans (hba.mono hb2.size)).mono HB0.out.size); have HO3 : Hid (OwnTm false (fun q => w.heap.size + 1 + 1 ≤ q) (w2.alloc (.cells #[.string zeroT.1.1, .int .i64 zeroT.1.2, .slice a2 (lenF zeroT.2) c2] 26)) zeroT.1 a2 c2 zeroT.2) := HO2.out.below hba; have ht := (HXt.out.below hb2).below hba; have hrr := (HXr.out.below hb2).below hba; have HR3 : Hid (XBox (w2.alloc (.cells #[.string zeroT.1.1, .int .i64 zeroT.1.2, .slice a2 (lenF zeroT.2) c2] 26)) (w.heap.size + 1) (⟨#[]⟩, 0) (.slice none 0 0)) := hrr; have q0 := ht.c0; have q1 := ht.c1; have q2 := ht.c2; have r0 := hrr.c0; have r1 := hrr.c1; have r2 := hrr.c2; have f0 := hrr.f (k := 0); have f1 := hrr.f (k := 1); have f2 := hrr.f (k := 2); clear ht hrr hba ho2 hb2))
        refine bodyPost_ret (results_cell_row rfl _ _ (w.heap.size + 1) 26 #[.string noB, .int .i64 sy, .slice none 0 0] (0, 0) _ rfl (HR3.out.all (x := (noB, sy)) _) Tryz.underlying26 rfl Tryz.size26) rfl ?_
        refine ⟨none, 0, by rw [e.out]; rfl, ?_, sets_below HB3.out (by omega) _ _ _⟩
        rw [e.out]
        exact own_nil _ _ (show noB.size ≤ maxLen by decide)
      | some t =>
        go_enter Tryz.func19, Tryz.ntmps19
        go_wp2_with (first
          | (rw [hW0])
          | (go_at_call 30; refine (HJ.out _ HB0.out).mono ?_; rintro e w9 ⟨rfl, hw9⟩; rw [hw9]; clear hw9)
          | (go_at_call 31; refine (HJo.out _ HB0.out).mono ?_; rintro e w2 ⟨⟨a2, c2, rfl, ho2⟩, hb2⟩; have HO2 : Hid (OwnTm false (fun q => w.heap.size + 1 + 1 ≤ q) w2 t.1 a2 c2 t.2) := ho2.mono (fun q _ hq => by rw [hz0] at hq; exact hq); have hba : Below w2.heap.size w2 (w2.alloc (.cells #[.string t.1.1, .int .i64 t.1.2, .slice a2 (lenF t.2) c2] 26)) := (Below.refl _ _).alloc (Nat.le_refl _) _; have HB3 : Hid (Below w.heap.size w (w2.alloc (.cells #[.string t.1.1, .int .i64 t.1.2, .slice a2 (lenF t.2) c2] 26))) := HB0.out.trans ((hb2.trans (hba.mono hb2.size)).mono HB0.out.size); have HO3 : Hid (OwnTm false (fun q => w.heap.size + 1 + 1 ≤ q) (w2.alloc (.cells #[.string t.1.1, .int .i64 t.1.2, .slice a2 (lenF t.2) c2] 26)) t.1 a2 c2 t.2) := HO2.out.below hba; have ht := (HXt.out.below hb2).below hba; have hrr := (HXr.out.below hb2).below hba; have HR3 : Hid (XBox (w2.alloc (.cells #[.string t.1.1, .int .i64 t.1.2, .slice a2 (lenF t.2) c2] 26)) (w.heap.size + 1) (⟨#[]⟩, 0) (.slice none 0 0)) := hrr; have q0 := ht.c0; have q1 := ht.c1; have q2 := ht.c2; have r0 := hrr.c0; have r1 := hrr.c1; have r2 := hrr.c2; have f0 := hrr.f (k := 0); have f1 := hrr.f (k := 1); have f2 := hrr.f (k := 2); clear ht hrr hba ho2 hb2))
        refine bodyPost_ret (results_cell_row rfl _ _ (w.heap.size + 1) 26 #[.string t.1.1, .int .i64 t.1.2, .slice a2 (lenF t.2) c2] (0, 0) _ rfl (HR3.out.all (x := t.1) _) Tryz.underlying26 rfl Tryz.size26) rfl ?_
        refine ⟨a2, c2, by rw [e.out]; rfl, ?_, sets_below HB3.out (by omega) _ _ _⟩
        rw [e.out]
        exact (HO3.out.sets _ _ _).mono (fun q _ hq => by omega)

set_option maxRecDepth 100000 in
theorem canon_all (S : Option Addr) (n cap : Nat) (l : List Sym) : ∀ k, k ≤ 1048576 → CanonOk S n cap l k := by
  intro k
  induction k using Nat.strongRecOn with
  | _ k ih =>
    intro hk
    have h : ∀ j, j < k → CanonOk S n cap l j := fun j hj => ih j hj (by omega)
    exact canon_of h (join_of hk h)
end Go.Proofs.YtokbgbbkopmngaaGreat
/- What the document's Exact answers of any two terms. -/
namespace Go.Proofs.YtokbgbbkopmngaaGreat
open Go.RowKit Go.Deep

/-- Alike in every field. -/
def exF : Fo → Fo → Bool
  | .nil, _ => true
  | .node _ _ _ _ _, .nil => true
  | .node _ _ x l r, .node _ _ y m s => ((x.1.toList == y.1.toList) && (x.2 == y.2) && (lenF l == lenF m) && exF l m) && exF r s
def exN (x y : ByteArray × Int) (l m : Fo) : Bool := (x.1.toList == y.1.toList) && (x.2 == y.2) && (lenF l == lenF m) && exF l m
def RExactOk (k : Nat) : Prop := ∀ (x y : ByteArray × Int) (l m : Fo) (a b : Option Addr) (c d : Nat) (w : World), nodesF l ≤ k → TmAt w x a c l → TmAt w y b d m →
  Calls Tryz.prog 10 #[.agg #[.string x.1, .int .i64 x.2, .slice a (lenF l) c], .agg #[.string y.1, .int .i64 y.2, .slice b (lenF m) d]] w fun e w' => e = .returned (.bool (exN x y l m)) ∧ Below w.heap.size w w'

end Go.Proofs.YtokbgbbkopmngaaGreat
/- What Name and Var of package sig, and the document's, answer of any text. -/
namespace Go.Proofs.YtokbgbbkopmngaaGreat
open Go.RowKit

set_option maxHeartbeats 400000 in
theorem rname_any (s : ByteArray) (w : World) (hs : s.size ≤ maxLen) : Calls Tryz.prog 58 #[.string s] w fun e w' => e = .returned (.bool (nameB s)) ∧ w' = w := by
  unfold maxLen at hs
  by_cases h0 : (s.size : Int) < 1
  · go_enter Tryz.func58, Tryz.ntmps58
    go_wp2
    go_ret
    exact ⟨by simp [nameB, fitsB]; omega, rfl⟩
  · by_cases h1 : 12 < (s.size : Int)
    · go_enter Tryz.func58, Tryz.ntmps58
      go_wp2
      go_ret
      exact ⟨by simp [nameB, fitsB]; omega, rfl⟩
    · have hp : 0 < s.size := by omega
      have hfit : Hid (fitsB s = true) := by show fitsB s = true; simp [fitsB]; omega
      cases hl : lowZ ((s[0]'hp).toNat : Int)
      · have hbad : Hid (nameB s = false) := by
          show nameB s = false
          unfold nameB
          rw [hfit.out, allB_false hp (by rw [bt_of hp]; simp [okName, hl])]; rfl
        go_enter Tryz.func58, Tryz.ntmps58
        go_wp2_with (go_at_call 61; refine (rlow_any _ _).mono ?_; rintro e w' ⟨rfl, rfl⟩)
        go_ret
        exact ⟨by rw [hbad.out]; rfl, rfl⟩
      · have h01 : Hid (allB okName s 1 = true) := by
          show allB okName s 1 = true
          rw [allB_succ, allB_zero, bt_of hp]; simp [okName, hl]
        go_enter Tryz.func58, Tryz.ntmps58
        go_wp2_with (go_at_call 61; refine (rlow_any _ _).mono ?_; rintro e w' ⟨rfl, rfl⟩)
        go_loop [3] (fun i => ∃ k : Nat, 1 ≤ k ∧ k ≤ s.size ∧ i = .int .i64 k ∧ allB okName s k = true) (fun i => s.size - (intOf i).toNat)
        case atStart => exact ⟨1, Nat.le_refl _, hp, rfl, h01.out⟩
        case round =>
          obtain ⟨k, hk1, hk, rfl, hall⟩ := hrel
          have HA : Hid (allB okName s k = true) := hall
          clear hall
          by_cases hlt : k < s.size
          · have hst : Hid (∀ b, okName k ((s[k]'hlt).toNat : Int) = b → allB okName s (k + 1) = b) := by
              intro b hb; rw [allB_succ, HA.out, bt_of hlt, hb]; rfl
            have hbad : Hid (okName k ((s[k]'hlt).toNat : Int) = false → nameB s = false) := by
              intro hb; unfold nameB; rw [allB_false hlt (by rw [bt_of hlt]; exact hb)]; simp
            cases hlk : lowZ ((s[k]'hlt).toNat : Int)
            · cases hdk : digZ ((s[k]'hlt).toNat : Int)
              · go_wp2_with (first | (go_at_call 61; refine (rlow_any _ _).mono ?_; rintro e w' ⟨rfl, rfl⟩) | (go_at_call 59; refine (rdigit_any _ _).mono ?_; rintro e w' ⟨rfl, rfl⟩))
                go_ret
                exact ⟨by rw [hbad.out (by simp [okName, hlk, hdk])]; rfl, rfl⟩
              · go_wp2_with (first | (go_at_call 61; refine (rlow_any _ _).mono ?_; rintro e w' ⟨rfl, rfl⟩) | (go_at_call 59; refine (rdigit_any _ _).mono ?_; rintro e w' ⟨rfl, rfl⟩))
                go_round
                case rel => exact ⟨k + 1, by omega, by omega, by go_num, hst.out _ (by simp [okName, hdk]; omega)⟩
                case measure => simp [intOf]; omega
            · go_wp2_with (first | (go_at_call 61; refine (rlow_any _ _).mono ?_; rintro e w' ⟨rfl, rfl⟩) | (go_at_call 59; refine (rdigit_any _ _).mono ?_; rintro e w' ⟨rfl, rfl⟩))
              go_round
              case rel => exact ⟨k + 1, by omega, by omega, by go_num, hst.out _ (by simp [okName, hlk])⟩
              case measure => simp [intOf]; omega
          · have hke : s.size = k := by omega
            have hgood : Hid (nameB s = true) := by show nameB s = true; unfold nameB; rw [hfit.out, hke, HA.out]; rfl
            clear hke
            go_wp2
            go_ret
            exact ⟨by rw [hgood.out]; rfl, rfl⟩

end Go.Proofs.YtokbgbbkopmngaaGreat
/- What the document's symbol and Check answer. -/
namespace Go.Proofs.YtokbgbbkopmngaaGreat
open Go.RowKit

theorem box_facts {w w1 : World} {x : Sym} (hb : Below (w.heap.size + 1) (w.alloc (.cells #[.string x.name, .int .i64 x.kind, .int .i64 x.arity, .string x.unit] 63)) w1) :
    w1.cell? ⟨w.heap.size, 0, none⟩ = some (.string x.name) ∧ w1.cell? ⟨w.heap.size, 1, none⟩ = some (.int .i64 x.kind) ∧ w1.cell? ⟨w.heap.size, 2, none⟩ = some (.int .i64 x.arity) ∧ w1.cell? ⟨w.heap.size, 3, none⟩ = some (.string x.unit) ∧ w.heap.size < w1.heap.size ∧ Below w.heap.size w w1 := by
  refine ⟨?_, ?_, ?_, ?_, ?_, ?_⟩
  · rw [hb.cell (p := ⟨w.heap.size, 0, none⟩) (by simp)]; simp [go_sem]
  · rw [hb.cell (p := ⟨w.heap.size, 1, none⟩) (by simp)]; simp [go_sem]
  · rw [hb.cell (p := ⟨w.heap.size, 2, none⟩) (by simp)]; simp [go_sem]
  · rw [hb.cell (p := ⟨w.heap.size, 3, none⟩) (by simp)]; simp [go_sem]
  · have := hb.size; simp at this; omega
  · exact ((Below.refl _ _).alloc (Nat.le_refl _) _).trans (hb.mono (by omega))
def freshB (l : List Sym) (nm : ByteArray) : Bool := l.all fun y => !sameB y.name nm
theorem fresh_find (l : List Sym) (nm : ByteArray) : findB l nm = !freshB l nm := by
  unfold findB findL freshB
  rw [List.findIdx?_isSome]
  induction l with
  | nil => rfl
  | cons y l ih => simp only [List.any_cons, List.all_cons, ih]; cases sameB y.name nm <;> simp
theorem fresh_succ {l : List Sym} {k : Nat} (hk : k < l.length) (nm : ByteArray) : freshB (l.take (k + 1)) nm = (freshB (l.take k) nm && !sameB l[k].name nm) := by
  unfold freshB
  rw [List.take_succ_eq_append_getElem hk, List.all_append]
  simp
def okB (l : List Sym) (x : Sym) (k : Nat) : Bool := nameB x.name && freshB (l.take k) x.name
theorem okB_zero (l : List Sym) (x : Sym) : okB l x 0 = nameB x.name := by simp [okB, freshB]
theorem okB_succ {l : List Sym} {k : Nat} (hk : k < l.length) (x : Sym) : okB l x (k + 1) = (okB l x k && !sameB l[k].name x.name) := by
  unfold okB; rw [fresh_succ hk, Bool.and_assoc]
theorem okB_err {l : List Sym} {x : Sym} {k : Nat} (h : okB l x k = false) : symErr (l.take k) x = 11 := by
  unfold symErr
  rw [if_pos]
  unfold okB at h
  rw [fresh_find]
  cases h1 : nameB x.name
  · exact Or.inr rfl
  · rw [h1] at h; simp at h; left; simp [h]
theorem okB_ok {l : List Sym} {x : Sym} {k : Nat} (h : okB l x k = true) : ¬ (findB (l.take k) x.name = true ∨ nameB x.name = false) := by
  unfold okB at h
  rw [fresh_find]
  simp at h
  simp [h.1, h.2]
theorem err12 {l : List Sym} {x : Sym} (h : ¬ (findB l x.name = true ∨ nameB x.name = false)) (hk : kindB x = false) : symErr l x = 12 := by
  unfold symErr; rw [if_neg h, if_pos hk]
theorem err13 {l : List Sym} {x : Sym} (h : ¬ (findB l x.name = true ∨ nameB x.name = false)) (hk : kindB x = true) (ha : arityB x = false) : symErr l x = 13 := by
  unfold symErr; rw [if_neg h, if_neg (by simp [hk]), if_pos ha]
theorem err14 {l : List Sym} {x : Sym} (h : ¬ (findB l x.name = true ∨ nameB x.name = false)) (hk : kindB x = true) (ha : arityB x = true) : symErr l x = if unitB l x = false then 14 else 0 := by
  unfold symErr; rw [if_neg h, if_neg (by simp [hk]), if_neg (by simp [ha])]

set_option maxHeartbeats 1000000 in
theorem rsymbol_any (a : Option Addr) (n cap : Nat) (l : List Sym) (i : Nat) (hi : i < l.length) (w : World) (h : SigAt w a n l) :
    Calls Tryz.prog 39 #[.slice a n cap, .int .i64 i] w fun e w' => e = .returned (.int .i64 (symErr (l.take i) l[i])) ∧ Below w.heap.size w w' := by
  have HS : Hid (SigAt w a n l) := h
  have hm := h.small
  have hin : (i : Int) < n := by have := h.len; omega
  have hi0 : (0 : Int) ≤ i := by omega
  unfold maxLen at hm
  clear h
  obtain ⟨b, off, rfl, hsym⟩ := HS.out.cells i hi
  have hfx : Hid (l[i].Fits) := HS.out.fits _ (List.getElem_mem hi)
  have c0 := hsym.name
  have c1 := hsym.kind
  have c2 := hsym.arity
  have c3 := hsym.unit
  clear hsym
  go_enter Tryz.func39, Tryz.ntmps39
  go_wp2_with (go_at_call 58; refine (rname_any _ _ hfx.out.name).mono ?_; rintro e w1 hh; obtain ⟨rfl, hw⟩ := hh; rw [hw]; clear hw w1)
  clear c0 c1 c2 c3
  generalize hx : l[i] = x at *
  have HX : Hid (l[i] = x) := hx
  clear hx
  go_loopw [6, 7] (fun ok k w' => ∃ j : Nat, j ≤ i ∧ k = .int .i64 j ∧ ok = .bool (okB l x j) ∧ Below (w.heap.size + 1) (w.alloc (.cells #[.string x.name, .int .i64 x.kind, .int .i64 x.arity, .string x.unit] 63)) w') (fun _ k _ => i - (intOf k).toNat)
  case atStart => exact ⟨0, Nat.zero_le _, rfl, by rw [okB_zero], (Below.refl _ _)⟩
  case round =>
    obtain ⟨j, hj, rfl, rfl, hb⟩ := hrel
    have HB : Hid (Below (w.heap.size + 1) (w.alloc (.cells #[.string x.name, .int .i64 x.kind, .int .i64 x.arity, .string x.unit] 63)) wr) := hb
    obtain ⟨x0, x1, x2, x3, hz, hbw⟩ := box_facts hb
    have HW : Hid (Below w.heap.size w wr) := hbw
    by_cases hlt : (j : Int) < i
    · have hlj : j < l.length := by omega
      obtain ⟨b', off', hbo, hsj⟩ := HS.out.cells j hlj
      simp only [Option.some.injEq, Addr.mk.injEq, and_true] at hbo
      obtain ⟨rfl, rfl⟩ := hbo
      have s0 := (hsj.below hbw).name
      clear hsj hb hbw
      have hj0 : (0 : Int) ≤ (j : Int) := by omega
      have hjn : (j : Int) < (n : Int) := by omega
      have hne := later_some wr
      have d0 := later_cell s0
      have d1 := later_cell x0
      have hok := okB_succ hlj x
      have HO : Hid (okB l x (j + 1) = (okB l x j && !sameB l[j].name x.name)) := hok
      clear hok
      cases ho : okB l x j
      · go_wp2
        refine wp_region_later (by kernel_rfl) (by kernel_rfl) ?_
        repeat (go_big_quiet_step (fail))
        refine wpQuiet_nil ?_
        intro _ hw'
        obtain ⟨b2, hw''⟩ := hw'
        subst hw''
        clear d0 d1 x0 x1 x2 x3 s0
        go_wp2
        go_roundw
        case rel => exact ⟨j + 1, by omega, by go_num, by rw [HO.out, ho]; rfl, HB.out.trans (b2.below.mono (by omega))⟩
        case measure => simp [intOf]; omega
      · go_wp2
        refine wp_region_later (by kernel_rfl) (by kernel_rfl) ?_
        repeat (go_big_quiet_step (fail))
        refine wpQuiet_nil ?_
        intro _ hw'
        obtain ⟨b2, hw''⟩ := hw'
        subst hw''
        clear d0 d1 x0 x1 x2 x3 s0
        go_wp2
        go_roundw
        case rel => exact ⟨j + 1, by omega, by go_num, by rw [HO.out, ho]; rfl, HB.out.trans (b2.below.mono (by omega))⟩
        case measure => simp [intOf]; omega
    · have hji : Hid (j = i) := by show j = i; omega
      clear hb hbw
      cases ho : okB l x j
      · have hf : Hid (symErr (l.take i) x = 11) := okB_err (by rw [← hji.out]; exact ho)
        go_wp2
        go_ret
        exact ⟨by rw [HX.out, hf.out]; rfl, HW.out⟩
      · have hgood : Hid (¬ (findB (l.take i) x.name = true ∨ nameB x.name = false)) := okB_ok (by rw [← hji.out]; exact ho)
        by_cases k1 : x.kind = 1
        · have K1 : Hid (x.kind = 1) := k1
          have e1 : (x.kind != 1) = false := by simp [k1]
          have e2 : (x.kind == 1) = true := by simp [k1]
          have e3 : (x.kind != 3) = true := by simp [k1]
          have hkb : Hid (kindB x = true) := by show _ = _; simp [kindB, k1]
          have hkn3 : Hid (x.kind ≠ 3) := by show _ ≠ _; omega
          clear k1
          by_cases r0 : x.arity < 0
          · have hf : Hid (symErr (l.take i) x = 13) := err13 hgood.out hkb.out (by simp [arityB, K1.out]; omega)
            go_wp2
            go_ret
            exact ⟨by rw [HX.out, hf.out]; rfl, HW.out⟩
          · by_cases r4 : 4 < x.arity
            · have hf : Hid (symErr (l.take i) x = 13) := err13 hgood.out hkb.out (by simp [arityB, K1.out]; omega)
              go_wp2
              go_ret
              exact ⟨by rw [HX.out, hf.out]; rfl, HW.out⟩
            · have har : Hid (arityB x = true) := by show _ = _; simp [arityB, K1.out]; omega
              cases hu : x.unit.toList.isEmpty
              · have hf : Hid (symErr (l.take i) x = 14) := by
                  show _ = _
                  rw [err14 hgood.out hkb.out har.out, if_pos (by simp [unitB, hkn3.out, emptyB, hu])]
                go_wp2
                go_ret
                exact ⟨by rw [HX.out, hf.out]; rfl, HW.out⟩
              · have hf : Hid (symErr (l.take i) x = 0) := by
                  show _ = _
                  rw [err14 hgood.out hkb.out har.out, if_neg (by simp [unitB, hkn3.out, emptyB, hu])]
                go_wp2
                go_ret
                exact ⟨by rw [HX.out, hf.out]; rfl, HW.out⟩
        · have e1 : (x.kind != 1) = true := by simp [k1]
          have e2 : (x.kind == 1) = false := by simp [k1]
          by_cases k2 : x.kind = 2
          · have e4 : (x.kind != 2) = false := by simp [k2]
            have e3 : (x.kind != 3) = true := by simp [k2]
            have hkb : Hid (kindB x = true) := by show _ = _; simp [kindB, k2]
            have hkn3 : Hid (x.kind ≠ 3) := by show _ ≠ _; omega
            have hkn1 : Hid (x.kind ≠ 1) := k1
            clear k1 k2
            cases r2 : (x.arity != 2)
            · have har : Hid (arityB x = true) := by show _ = _; simp [arityB, hkn1.out]; simpa using r2
              cases hu : x.unit.toList.isEmpty
              · have hf : Hid (symErr (l.take i) x = 14) := by
                  show _ = _
                  rw [err14 hgood.out hkb.out har.out, if_pos (by simp [unitB, hkn3.out, emptyB, hu])]
                go_wp2
                go_ret
                exact ⟨by rw [HX.out, hf.out]; rfl, HW.out⟩
              · have hf : Hid (symErr (l.take i) x = 0) := by
                  show _ = _
                  rw [err14 hgood.out hkb.out har.out, if_neg (by simp [unitB, hkn3.out, emptyB, hu])]
                go_wp2
                go_ret
                exact ⟨by rw [HX.out, hf.out]; rfl, HW.out⟩
            · have hf : Hid (symErr (l.take i) x = 13) := err13 hgood.out hkb.out (by simp [arityB, hkn1.out]; simpa using r2)
              go_wp2
              go_ret
              exact ⟨by rw [HX.out, hf.out]; rfl, HW.out⟩
          · have e4 : (x.kind != 2) = true := by simp [k2]
            by_cases k3 : x.kind = 3
            · have e3 : (x.kind != 3) = false := by simp [k3]
              have hkb : Hid (kindB x = true) := by show _ = _; simp [kindB, k3]
              have hkn1 : Hid (x.kind ≠ 1) := k1
              have K3 : Hid (x.kind = 3) := k3
              clear k1 k2 k3
              cases r2 : (x.arity != 2)
              · have har : Hid (arityB x = true) := by show _ = _; simp [arityB, hkn1.out]; simpa using r2
                go_wp2
                have HB0 : Hid (Below (w.heap.size + 1) (w.alloc (.cells #[.string x.name, .int .i64 x.kind, .int .i64 x.arity, .string x.unit] 63)) wr) := HB.out
                clear x0 x1 x2 x3 hz ho hlt
                go_loopw [8] (fun k w' => ∃ j : Nat, j ≤ i ∧ k = .int .i64 j ∧ (∀ m (hm : m < l.length), m < j → isUnit x l[m] = false) ∧ Below (w.heap.size + 1) (w.alloc (.cells #[.string x.name, .int .i64 x.kind, .int .i64 x.arity, .string x.unit] 63)) w') (fun k _ => i - (intOf k).toNat)
                case atStart => exact ⟨0, Nat.zero_le _, rfl, fun m _ h => absurd h (by omega), HB0.out⟩
                case round =>
                  rename_i wq
                  obtain ⟨j2, hj2, rfl, hno, hb⟩ := hrel
                  have HN : Hid (∀ m (hm : m < l.length), m < j2 → isUnit x l[m] = false) := hno
                  have HB2 : Hid (Below (w.heap.size + 1) (w.alloc (.cells #[.string x.name, .int .i64 x.kind, .int .i64 x.arity, .string x.unit] 63)) wr) := hb
                  obtain ⟨x0, x1, x2, x3, hz, hbw⟩ := box_facts hb
                  have HW2 : Hid (Below w.heap.size w wr) := hbw
                  clear hno
                  by_cases hlt2 : (j2 : Int) < i
                  · have hlj : j2 < l.length := by omega
                    obtain ⟨b', off', hbo, hsj⟩ := HS.out.cells j2 hlj
                    simp only [Option.some.injEq, Addr.mk.injEq, and_true] at hbo
                    obtain ⟨rfl, rfl⟩ := hbo
                    have s0 := (hsj.below hbw).name
                    have s1 := (hsj.below hbw).kind
                    have s2 := (hsj.below hbw).arity
                    clear hsj hb hbw
                    have hj0 : (0 : Int) ≤ (j2 : Int) := by omega
                    have hjn : (j2 : Int) < (n : Int) := by omega
                    have hne := later_some wr
                    have d0 := later_cell s0
                    have d1 := later_cell s1
                    have d2 := later_cell s2
                    have d3 := later_cell x3
                    cases t1 : (l[j2].kind == 1)
                    · have hu : Hid (isUnit x l[j2] = false) := by show _ = _; simp at t1; simp [isUnit, t1]
                      go_wp2
                      refine wp_region_later (by kernel_rfl) (by kernel_rfl) ?_
                      repeat (go_big_quiet_step (fail))
                      refine wpQuiet_nil ?_
                      intro _ hw'
                      obtain ⟨b2, hw''⟩ := hw'
                      subst hw''
                      clear d0 d1 d2 d3 x0 x1 x2 x3 s0 s1 s2
                      go_wp2
                      go_roundw
                      case rel => exact ⟨j2 + 1, by omega, by go_num, fun m hm h => by
                        rcases Nat.lt_succ_iff_lt_or_eq.1 h with h | rfl
                        · exact HN.out m hm h
                        · exact hu.out, HB2.out.trans (b2.below.mono (by omega))⟩
                      case measure => simp [intOf]; omega
                    · cases t2 : (l[j2].arity == 0)
                      · have hu : Hid (isUnit x l[j2] = false) := by show _ = _; simp at t2; simp [isUnit, t2]
                        go_wp2
                        refine wp_region_later (by kernel_rfl) (by kernel_rfl) ?_
                        repeat (go_big_quiet_step (fail))
                        refine wpQuiet_nil ?_
                        intro _ hw'
                        obtain ⟨b2, hw''⟩ := hw'
                        subst hw''
                        clear d0 d1 d2 d3 x0 x1 x2 x3 s0 s1 s2
                        go_wp2
                        go_roundw
                        case rel => exact ⟨j2 + 1, by omega, by go_num, fun m hm h => by
                          rcases Nat.lt_succ_iff_lt_or_eq.1 h with h | rfl
                          · exact HN.out m hm h
                          · exact hu.out, HB2.out.trans (b2.below.mono (by omega))⟩
                        case measure => simp [intOf]; omega
                      · cases t3 : (l[j2].name.toList == x.unit.toList)
                        · have hu : Hid (isUnit x l[j2] = false) := by show _ = _; simp [isUnit, sameB, t3]
                          go_wp2
                          refine wp_region_later (by kernel_rfl) (by kernel_rfl) ?_
                          repeat (go_big_quiet_step (fail))
                          refine wpQuiet_nil ?_
                          intro _ hw'
                          obtain ⟨b2, hw''⟩ := hw'
                          subst hw''
                          clear d0 d1 d2 d3 x0 x1 x2 x3 s0 s1 s2
                          go_wp2
                          go_roundw
                          case rel => exact ⟨j2 + 1, by omega, by go_num, fun m hm h => by
                            rcases Nat.lt_succ_iff_lt_or_eq.1 h with h | rfl
                            · exact HN.out m hm h
                            · exact hu.out, HB2.out.trans (b2.below.mono (by omega))⟩
                          case measure => simp [intOf]; omega
                        · have hu : Hid (isUnit x l[j2] = true) := by show _ = _; simp at t1 t2; simp [isUnit, sameB, t1, t2, t3]
                          have hf : Hid (symErr (l.take i) x = 0) := by
                            show _ = _
                            rw [err14 hgood.out hkb.out har.out, if_neg]
                            rw [Bool.not_eq_false]
                            unfold unitB
                            rw [if_pos K3.out, List.any_eq_true]
                            exact ⟨l[j2], by rw [List.mem_take_iff_getElem]; exact ⟨j2, by omega, rfl⟩, hu.out⟩
                          go_wp2
                          refine wp_region_later (by kernel_rfl) (by kernel_rfl) ?_
                          repeat (go_big_quiet_step (fail))
                          refine wpQuiet_nil ?_
                          intro _ hw'
                          obtain ⟨b2, hw''⟩ := hw'
                          subst hw''
                          clear d0 d1 d2 d3 x0 x1 x2 x3 s0 s1 s2
                          go_wp2
                          go_ret
                          exact ⟨by rw [HX.out, hf.out]; rfl, HW2.out.trans (b2.below.mono HW2.out.size)⟩
                  · have hf : Hid (symErr (l.take i) x = 14) := by
                      show _ = _
                      rw [err14 hgood.out hkb.out har.out, if_pos]
                      unfold unitB
                      rw [if_pos K3.out, List.any_eq_false]
                      intro y hy
                      obtain ⟨m, hm1, rfl⟩ := List.getElem_of_mem hy
                      have hm2 : m < i := by simp at hm1; omega
                      have := HN.out m (by omega) (by omega)
                      simp [this]
                    clear hb hbw
                    go_wp2
                    go_ret
                    exact ⟨by rw [HX.out, hf.out]; rfl, HW2.out⟩
              · have hf : Hid (symErr (l.take i) x = 13) := err13 hgood.out hkb.out (by simp [arityB, hkn1.out]; simpa using r2)
                go_wp2
                go_ret
                exact ⟨by rw [HX.out, hf.out]; rfl, HW.out⟩
            · have e3 : (x.kind != 3) = true := by simp [k3]
              have hf : Hid (symErr (l.take i) x = 12) := err12 hgood.out (by simp [kindB, k1, k2, k3])
              clear k1 k2 k3
              go_wp2
              go_ret
              exact ⟨by rw [HX.out, hf.out]; rfl, HW.out⟩
end Go.Proofs.YtokbgbbkopmngaaGreat
/- What the document's Check and Same answer, and what kept answers of a signature that reads as it did. -/
namespace Go.Proofs.YtokbgbbkopmngaaGreat
open Go.RowKit

def CheckRet (l : List Sym) (e : Ending) : Prop := e = .returned (.tuple #[.int .i64 (checkE l), .int .i64 (checkP l)])

set_option maxHeartbeats 400000 in
theorem rcheck_any (a : Option Addr) (n cap : Nat) (l : List Sym) (w : World) (h : SigAt w a n l) :
    Calls Tryz.prog 25 #[.slice a n cap] w fun e w' => CheckRet l e ∧ Below w.heap.size w w' := by
  have HS : Hid (SigAt w a n l) := h
  have hm := h.small
  unfold maxLen at hm
  clear h
  by_cases h16 : (16 : Int) < n
  · have hl16 : Hid (16 < l.length) := by show _ < _; have := HS.out.len; omega
    go_enter Tryz.func25, Tryz.ntmps25
    go_wp2
    go_ret2
    exact ⟨by have := hl16.out; simp [CheckRet, checkE, checkP, this], Below.refl _ _⟩
  · have hl16 : Hid (¬ 16 < l.length) := by show ¬ _; have := HS.out.len; omega
    go_enter Tryz.func25, Tryz.ntmps25
    go_wp2
    go_loopw [4, 5] (fun i _ w' => ∃ k : Nat, k ≤ n ∧ i = .int .i64 k ∧ Below w.heap.size w w' ∧ ∀ j, j < k → errAt l j = 0) (fun i _ _ => n - (intOf i).toNat)
    case atStart => exact ⟨0, Nat.zero_le _, rfl, Below.refl _ _, fun j h => absurd h (by omega)⟩
    case round =>
      obtain ⟨k, hk, rfl, hb, hno⟩ := hrel
      have HN : Hid (∀ j, j < k → errAt l j = 0) := hno
      have HB : Hid (Below w.heap.size w wr) := hb
      clear hno hb
      by_cases hlt : k < n
      · have hlk : k < l.length := by have := HS.out.len; omega
        have HC : Hid (∀ W, SigAt W a n l → Calls Tryz.prog 39 #[.slice a n cap, .int .i64 k] W fun e w' => e = .returned (.int .i64 (errAt l k)) ∧ Below W.heap.size W w') := by
          intro W hW
          have := rsymbol_any a n cap l k hlk W hW
          rw [show symErr (l.take k) l[k] = errAt l k by unfold errAt; rw [dif_pos hlk]] at this
          exact this
        cases he : (errAt l k != 0)
        · have he' : Hid (errAt l k = 0) := by show _ = _; simpa using he
          go_wp2_with fail
          refine (HC.out _ (HS.out.below HB.out)).mono ?_
          rintro e w2 ⟨rfl, hb2⟩
          have HB2 : Hid (Below w.heap.size w w2) := HB.out.trans (hb2.mono HB.out.size)
          clear hb2
          go_wp2
          go_roundw
          case rel => exact ⟨k + 1, by omega, by go_num, HB2.out, fun j hj => by
            rcases Nat.lt_succ_iff_lt_or_eq.1 hj with hj | rfl
            · exact HN.out j hj
            · exact he'.out⟩
          case measure => simp [intOf]; omega
        · have hf : Hid (firstErr l = some k) := firstErr_hit hlk (by simpa using he) HN.out
          go_wp2_with fail
          refine (HC.out _ (HS.out.below HB.out)).mono ?_
          rintro e w2 ⟨rfl, hb2⟩
          have HB2 : Hid (Below w.heap.size w w2) := HB.out.trans (hb2.mono HB.out.size)
          clear hb2
          go_wp2
          go_ret2
          exact ⟨by unfold CheckRet; rw [checkE_hit hl16.out hf.out, checkP_hit hl16.out hf.out]; rfl, HB2.out⟩
      · have hf : Hid (firstErr l = none) := firstErr_miss fun j hj => HN.out j (by have := HS.out.len; omega)
        go_wp2
        go_ret2
        exact ⟨by unfold CheckRet; rw [checkE_miss hl16.out hf.out, checkP_miss hl16.out hf.out]; rfl, HB.out⟩

end Go.Proofs.YtokbgbbkopmngaaGreat
/- What the document's Same, Is, Equal and Right answer. -/
namespace Go.Proofs.YtokbgbbkopmngaaGreat
open Go.RowKit Go.Deep

set_option maxRecDepth 100000 in
set_option maxHeartbeats 2000000 in
theorem rsame_any (x y : Tn) (a b : Option Addr) (c d : Nat) (w : World) (hS : TmAt w x.1 a c x.2) (hT : TmAt w y.1 b d y.2) :
    Calls Tryz.prog 20 #[.agg #[.string x.1.1, .int .i64 x.1.2, .slice a (lenF x.2) c], .agg #[.string y.1.1, .int .i64 y.1.2, .slice b (lenF y.2) d]] w fun e w' => e = .returned (.bool (cmpN x y == 0)) ∧ Below w.heap.size w w' := by
  obtain ⟨⟨xn, xs⟩, l⟩ := x
  obtain ⟨⟨yn, ys⟩, m⟩ := y
  obtain ⟨cv, hcv⟩ : ∃ cv, cmpN ((xn, xs), l) ((yn, ys), m) = cv := ⟨_, rfl⟩
  have PA : Hid (Pair w (xn, xs) a (lenF l) c (yn, ys) b (lenF m) d ((w.alloc (.cells #[.string xn, .int .i64 xs, .slice a (lenF l) c] 26)).alloc (.cells #[.string yn, .int .i64 ys, .slice b (lenF m) d] 26))) := Pair.new _ _ _ _ _ _ _ _ _
  have HC : Hid (∀ V, Below w.heap.size w V → Calls Tryz.prog 32 #[.agg #[.string xn, .int .i64 xs, .slice a (lenF l) c], .agg #[.string yn, .int .i64 ys, .slice b (lenF m) d]] V fun e w' => e = .returned (.int .i64 cv) ∧ Below V.heap.size V w') := fun V hV => by
    have := rcompare_all _ (xn, xs) (yn, ys) a b c d l m V (Nat.le_refl _) (hS.below hV) (hT.below hV)
    rw [show cmp1 (xn, xs) (yn, ys) (lenF l) (lenF m) (cmpF l m) = cv from hcv] at this
    exact this
  rw [hcv]
  clear hcv hS hT
  go_enter Tryz.func20, Tryz.ntmps20
  go_wp2_with (go_at_call 32; refine (HC.out _ PA.out.low).mono ?_; rintro e w1 ⟨rfl, hb1⟩; have HB1 : Hid (Below w.heap.size w w1) := PA.out.low.trans (hb1.mono PA.out.low.size); clear hb1)
  go_ret
  exact ⟨rfl, HB1.out⟩

set_option maxRecDepth 100000 in
set_option maxHeartbeats 2000000 in
theorem equal_any (S : Option Addr) (n cap : Nat) (l : List Sym) (t s : Tn) (a b : Option Addr) (c d : Nat) (w : World) (hS : SigAt w S n l) (hT : TmAt w t.1 a c t.2) (hU : TmAt w s.1 b d s.2) (hk : nodesF t.2 ≤ 1048576) (hk2 : nodesF s.2 ≤ 1048576) :
    Calls Tryz.prog 8 #[.slice S n cap, .agg #[.string t.1.1, .int .i64 t.1.2, .slice a (lenF t.2) c], .agg #[.string s.1.1, .int .i64 s.1.2, .slice b (lenF s.2) d]] w fun e w' => e = .returned (.bool (cmpN (canonT (sgOf l) t) (canonT (sgOf l) s) == 0)) ∧ Below w.heap.size w w' := by
  obtain ⟨ct, hct⟩ : ∃ ct, canonT (sgOf l) t = ct := ⟨_, rfl⟩
  obtain ⟨cs, hcs⟩ : ∃ cs, canonT (sgOf l) s = cs := ⟨_, rfl⟩
  have HC : Hid (∀ W, Below w.heap.size w W → Calls Tryz.prog 19 #[.slice S n cap, .agg #[.string t.1.1, .int .i64 t.1.2, .slice a (lenF t.2) c]] W fun e w' => ∃ a' c', e = .returned (.agg #[.string ct.1.1, .int .i64 ct.1.2, .slice a' (lenF ct.2) c']) ∧ OwnTm false (fun q => W.heap.size ≤ q) w' ct.1 a' c' ct.2 ∧ Below W.heap.size W w') := fun W hW => by
    have := canon_all S n cap l 1048576 (Nat.le_refl _) t a c W hk (hS.below hW) (hT.below hW)
    rw [hct] at this
    exact this
  have HD : Hid (∀ W, Below w.heap.size w W → Calls Tryz.prog 19 #[.slice S n cap, .agg #[.string s.1.1, .int .i64 s.1.2, .slice b (lenF s.2) d]] W fun e w' => ∃ a' c', e = .returned (.agg #[.string cs.1.1, .int .i64 cs.1.2, .slice a' (lenF cs.2) c']) ∧ OwnTm false (fun q => W.heap.size ≤ q) w' cs.1 a' c' cs.2 ∧ Below W.heap.size W w') := fun W hW => by
    have := canon_all S n cap l 1048576 (Nat.le_refl _) s b d W hk2 (hS.below hW) (hU.below hW)
    rw [hcs] at this
    exact this
  have HE : Hid (∀ W a' c' b' d', TmAt W ct.1 a' c' ct.2 → TmAt W cs.1 b' d' cs.2 → Calls Tryz.prog 20 #[.agg #[.string ct.1.1, .int .i64 ct.1.2, .slice a' (lenF ct.2) c'], .agg #[.string cs.1.1, .int .i64 cs.1.2, .slice b' (lenF cs.2) d']] W fun e w' => e = .returned (.bool (cmpN ct cs == 0)) ∧ Below W.heap.size W w') := fun W a' c' b' d' h1 h2 => rsame_any ct cs a' b' c' d' W h1 h2
  have ON : Hid (Pair w t.1 a (lenF t.2) c s.1 b (lenF s.2) d ((w.alloc (.cells #[.string t.1.1, .int .i64 t.1.2, .slice a (lenF t.2) c] 26)).alloc (.cells #[.string s.1.1, .int .i64 s.1.2, .slice b (lenF s.2) d] 26))) := Pair.new _ _ _ _ _ _ _ _ _
  rw [hct, hcs]
  clear hct hcs hS hT hU
  obtain ⟨⟨tn, ts⟩, tl⟩ := t
  obtain ⟨⟨sn, ss⟩, sl⟩ := s
  dsimp only at *
  go_enter Tryz.func8, Tryz.ntmps8
  go_wp2_with (first
    | (go_at_call 19; refine (HD.out _ HB1.out).mono ?_; rintro e w2 ⟨b', d', rfl, ho2, hb2⟩; have hba : Below w2.heap.size w2 (w2.alloc (.cells #[.string cs.1.1, .int .i64 cs.1.2, .slice b' (lenF cs.2) d'] 26)) := (Below.refl _ _).alloc (Nat.le_refl _) _; have hbb := hb2.trans (hba.mono hb2.size); have hbx := HX1.out.below hbb; have e0 := hbx.c0; have e1 := hbx.c1; have e2 := hbx.c2; have HO2 : Hid (TmAt (w2.alloc (.cells #[.string cs.1.1, .int .i64 cs.1.2, .slice b' (lenF cs.2) d'] 26)) cs.1 b' d' cs.2) := ho2.tm.below hba; have HO1' : Hid (TmAt (w2.alloc (.cells #[.string cs.1.1, .int .i64 cs.1.2, .slice b' (lenF cs.2) d'] 26)) ct.1 a' c' ct.2) := HO1.out.below hbb; have HB2 : Hid (Below w.heap.size w (w2.alloc (.cells #[.string cs.1.1, .int .i64 cs.1.2, .slice b' (lenF cs.2) d'] 26))) := HB1.out.trans (hbb.mono HB1.out.size); clear ho2 hb2 hba hbb hbx)
    | (go_at_call 19; refine (HC.out _ ON.out.low).mono ?_; rintro e w1 ⟨a', c', rfl, ho1, hb1⟩; have hba : Below w1.heap.size w1 (w1.alloc (.cells #[.string ct.1.1, .int .i64 ct.1.2, .slice a' (lenF ct.2) c'] 26)) := (Below.refl _ _).alloc (Nat.le_refl _) _; have hbb := hb1.trans (hba.mono hb1.size); have hbx := ON.out.r.below hbb; have c0 := hbx.c0; have c1 := hbx.c1; have c2 := hbx.c2; have HO1 : Hid (TmAt (w1.alloc (.cells #[.string ct.1.1, .int .i64 ct.1.2, .slice a' (lenF ct.2) c'] 26)) ct.1 a' c' ct.2) := ho1.tm.below hba; have HX1 : Hid (TBox (w1.alloc (.cells #[.string ct.1.1, .int .i64 ct.1.2, .slice a' (lenF ct.2) c'] 26)) w1.heap.size ct.1 a' (lenF ct.2) c') := TBox.new _ _ _ _ _; have HB1 : Hid (Below w.heap.size w (w1.alloc (.cells #[.string ct.1.1, .int .i64 ct.1.2, .slice a' (lenF ct.2) c'] 26))) := ON.out.low.trans (hbb.mono ON.out.low.size); clear ho1 hb1 hba hbb hbx)
    | (go_at_call 20; refine (HE.out _ _ _ _ _ HO1'.out HO2.out).mono ?_; rintro e w3 ⟨rfl, hb3⟩; have HB3 : Hid (Below w.heap.size w w3) := HB2.out.trans (hb3.mono HB2.out.size); clear hb3))
  go_ret
  exact ⟨rfl, HB3.out⟩

/-! ### right -/
set_option maxRecDepth 100000 in
set_option maxHeartbeats 2000000 in
theorem sright_any (S : Option Addr) (n cap : Nat) (l : List Sym) (w : World) (hS : SigAt w S n l) :
    Calls Tryz.prog 14 #[.slice S n cap] w fun e w' => e = .returned (.bool (checkE l == 0)) ∧ Below w.heap.size w w' := by
  have HC : Hid (Calls Tryz.prog 25 #[.slice S n cap] w fun e w' => CheckRet l e ∧ Below w.heap.size w w') := rcheck_any S n cap l w hS
  clear hS
  go_enter Tryz.func14, Tryz.ntmps14
  go_wp2_with (go_at_call 25; refine HC.out.mono ?_; rintro e w1 ⟨he, hb1⟩; unfold CheckRet at he; subst he; have HB1 : Hid (Below w.heap.size w w1) := hb1; clear hb1)
  go_ret
  exact ⟨rfl, HB1.out⟩
def rightB (l : List Sym) (t : Tn) : Bool := (checkE l == 0) && (errT l t.1 t.2 == 0)
set_option maxRecDepth 100000 in
set_option maxHeartbeats 2000000 in
theorem rright_any (S : Option Addr) (n cap : Nat) (l : List Sym) (t : Tn) (a : Option Addr) (c : Nat) (w : World) (hS : SigAt w S n l) (hT : TmAt w t.1 a c t.2) :
    Calls Tryz.prog 6 #[.slice S n cap, .agg #[.string t.1.1, .int .i64 t.1.2, .slice a (lenF t.2) c]] w fun e w' => e = .returned (.bool (rightB l t)) ∧ Below w.heap.size w w' := by
  obtain ⟨⟨tn, ts⟩, tl⟩ := t
  obtain ⟨ev, hev⟩ : ∃ ev, errT l (tn, ts) tl = ev := ⟨_, rfl⟩
  have ON : Hid (TBox (w.alloc (.cells #[.string tn, .int .i64 ts, .slice a (lenF tl) c] 26)) w.heap.size (tn, ts) a (lenF tl) c) := TBox.new w (tn, ts) a (lenF tl) c
  have HB0 : Hid (Below w.heap.size w (w.alloc (.cells #[.string tn, .int .i64 ts, .slice a (lenF tl) c] 26))) := (Below.refl _ w).alloc (Nat.le_refl _) _
  have HS : Hid (∀ W, Below w.heap.size w W → Calls Tryz.prog 14 #[.slice S n cap] W fun e w' => e = .returned (.bool (checkE l == 0)) ∧ Below W.heap.size W w') := fun W hW => sright_any S n cap l W (hS.below hW)
  have HN : Hid (∀ W, Below w.heap.size w W → Calls Tryz.prog 15 #[.slice S n cap, .agg #[.string tn, .int .i64 ts, .slice a (lenF tl) c]] W fun e w' => e = .returned (.int .i64 ev) ∧ Below W.heap.size W w') := fun W hW => by
    have := nodes_all l _ S n cap (tn, ts) tl a c W (Nat.le_refl _) (hS.below hW) (hT.below hW)
    rw [hev] at this
    exact this
  clear hS hT
  cases hc : (checkE l == 0)
  · have e : Hid (rightB l ((tn, ts), tl) = false) := by show _ = _; unfold rightB; rw [hc]; rfl
    rw [hc] at HS
    go_enter Tryz.func6, Tryz.ntmps6
    go_wp2_with (go_at_call 14; refine (HS.out _ HB0.out).mono ?_; rintro e w1 ⟨rfl, hb1⟩; have HB1 : Hid (Below w.heap.size w w1) := HB0.out.trans (hb1.mono HB0.out.size); have hbx := ON.out.below hb1; have c0 := hbx.c0; have c1 := hbx.c1; have c2 := hbx.c2; clear hb1 hbx)
    go_ret
    exact ⟨by rw [e.out]; rfl, HB1.out⟩
  · have e : Hid (rightB l ((tn, ts), tl) = (ev == 0)) := by show _ = _; unfold rightB; rw [hc, ← hev]; rfl
    rw [hc] at HS
    clear hev
    go_enter Tryz.func6, Tryz.ntmps6
    go_wp2_with (first
      | (go_at_call 14; refine (HS.out _ HB0.out).mono ?_; rintro e w1 ⟨rfl, hb1⟩; have HB1 : Hid (Below w.heap.size w w1) := HB0.out.trans (hb1.mono HB0.out.size); have hbx := ON.out.below hb1; have c0 := hbx.c0; have c1 := hbx.c1; have c2 := hbx.c2; clear hb1 hbx)
      | (go_at_call 15; refine (HN.out _ HB1.out).mono ?_; rintro e w2 ⟨rfl, hb2⟩; have HB2 : Hid (Below w.heap.size w w2) := HB1.out.trans (hb2.mono HB1.out.size); clear hb2))
    go_ret
    exact ⟨by rw [e.out]; rfl, HB2.out⟩
set_option maxRecDepth 100000 in
theorem right_facts {l : List Sym} {t : Tn} (h : rightB l t = true) : (sgOf l).Ok (arAt l) ∧ RightT (sgOf l) (arAt l) t := by
  unfold rightB at h
  simp only [Bool.and_eq_true, beq_iff_eq] at h
  exact ⟨sg_ok h.1, errT_right h.1 h.2⟩
end Go.Proofs.YtokbgbbkopmngaaGreat
