/- The walk of the document's Sorted. -/
import Derived.Test.YtfnfbljijkjkjaaRSort
namespace Go.Proofs.Ytfnfbljijkjkjaa
open Go.RowKit Go.Deep

set_option maxRecDepth 100000 in
theorem RowAt.take {w : World} {a : Option Addr} {n : Nat} {ks : List Kv} (h : RowAt w a n ks) {p : Nat} (hp : p ≤ ks.length) : RowAt w a p (ks.take p) :=
  ⟨by simp; omega, fun j u hu => h.cells j u (by
    rw [kvCells_take, List.getElem?_take] at hu
    split at hu
    · exact hu
    · cases hu)⟩
set_option maxRecDepth 100000 in
theorem RowAt.drop {w : World} {g off n : Nat} {ks : List Kv} (h : RowAt w (some ⟨g, off, none⟩) n ks) {p : Nat} (_ : p ≤ ks.length) : RowAt w (some ⟨g, off + p * 3, none⟩) (n - p) (ks.drop p) :=
  ⟨by rw [List.length_drop, h.len], fun j u hu => by
    rw [kvCells_drop, List.getElem?_drop] at hu
    obtain ⟨b, o, e, hc⟩ := h.cells _ u hu
    cases e
    exact ⟨g, off + p * 3, rfl, by rw [Nat.add_assoc]; exact hc⟩⟩
set_option maxRecDepth 100000 in
theorem RowAt.empty (w : World) (a : Option Addr) : RowAt w a 0 [] := ⟨rfl, fun j u hu => by simp [kvCells] at hu⟩
set_option maxRecDepth 100000 in
theorem row_empty26 (w : World) : (w.alloc (.cells #[] 26)).ownsRow w.heap.size 26 3 (.slice (some ⟨w.heap.size, 0, none⟩) 0 0) 0 (kvCells []) :=
  ⟨rfl, .inr ⟨w.heap.size, 0, #[], rfl, Nat.le_refl _, World.alloc_heap_new w _, Nat.le_refl _, Nat.zero_le _, rfl, rfl⟩⟩
set_option maxRecDepth 100000 in
theorem RowAt.new (w : World) (k : Kv) : RowAt (w.alloc (.cells #[.string k.x.1, .int .i64 k.x.2, .slice k.a (lenF k.l) k.c] 26)) (some ⟨w.heap.size, 0, none⟩) 1 [k] :=
  ⟨rfl, fun j u hu => by
    refine ⟨w.heap.size, 0, rfl, ?_⟩
    have h := World.news_of_block (heap_alloc_new w (.cells #[.string k.x.1, .int .i64 k.x.2, .slice k.a (lenF k.l) k.c] 26)) j u (by simpa [kvCells, Kv.cells] using hu)
    rw [← h]
    congr 1
    unfold Addr.add
    split <;> simp_all⟩
/-- What the inner loop has found when it ends. -/
structure Found (out : List Kv) (k : Kv) (p : Nat) : Prop where
  le : p ≤ out.length
  gt : ∀ q y, p ≤ q → out[q]? = some y → cmpN y.tn k.tn > 0
  at_ : p = 0 ∨ ∀ y, out[p - 1]? = some y → cmpN y.tn k.tn ≤ 0
set_option maxRecDepth 100000 in
theorem Found.ins {out : List Kv} {k : Kv} {p : Nat} (h : Found out k p) (hs : Srt (out.map Kv.tn)) : (out.take p ++ [k] ++ out.drop p).map Kv.tn = insN k.tn (out.map Kv.tn) := by
  rw [ins_at hs (n := p) (by simpa using h.le) (fun j y hj hy => by
    rw [List.getElem?_map, Option.map_eq_some_iff] at hy
    obtain ⟨z, hz, rfl⟩ := hy
    exact h.gt j z hj hz) (by
    rcases h.at_ with h0 | h0
    · exact .inl h0
    · refine .inr (fun y hy => ?_)
      rw [List.getElem?_map, Option.map_eq_some_iff] at hy
      obtain ⟨z, hz, rfl⟩ := hy
      exact h0 z hz)]
  simp

set_option maxRecDepth 100000 in
set_option maxHeartbeats 2000000 in
theorem sorted_any (a : Option Addr) (n cap : Nat) (ks : List Kv) (w : World) (hR : RowAt w a n ks) (hK : ∀ k ∈ ks, TmAt w k.x k.a k.c k.l) (hn : n ≤ 2097152) :
    Calls Try.prog 83 #[.slice a n cap] w fun e w' => ∃ v out, e = .returned v ∧ w'.ownsRow w.heap.size 26 3 v out.length (kvCells out) ∧ (∀ k ∈ out, k ∈ ks) ∧ out.map Kv.tn = sortN (ks.map Kv.tn) ∧ Below w.heap.size w w' := by
  obtain rfl := hR.len
  have HR : Hid (RowAt w a ks.length ks) := hR
  have HK : Hid (∀ k ∈ ks, TmAt w k.x k.a k.c k.l) := hK
  clear hR hK
  go_enter Try.func83, Try.ntmps83
  go_wp2
  go_loopw [3, 4] (fun ov i wr => ∃ (j : Nat) (v : Value) (out : List Kv), j ≤ ks.length ∧ v = ov ∧ i = .int .i64 j ∧ wr.ownsRow w.heap.size 26 3 v out.length (kvCells out) ∧ (∀ k ∈ out, k ∈ ks) ∧ out.map Kv.tn = sortN ((ks.take j).map Kv.tn) ∧ Below w.heap.size w wr) (fun _ i _ => ks.length - (intOf i).toNat)
  case atStart => exact ⟨0, _, [], Nat.zero_le _, rfl, rfl, World.ownsRow_nil _ _ _ _, by simp, by simp [sortN], Below.refl _ _⟩
  case round =>
    obtain ⟨j, v, out, hj, rfl, rfl, hrow, hin, hmap, hlow⟩ := hrel
    have HRow : Hid (wr.ownsRow w.heap.size 26 3 v out.length (kvCells out)) := hrow
    have HIn : Hid (∀ k ∈ out, k ∈ ks) := hin
    have HM : Hid (out.map Kv.tn = sortN ((ks.take j).map Kv.tn)) := hmap
    have HL : Hid (Below w.heap.size w wr) := hlow
    have hol : out.length ≤ ks.length := by
      have := congrArg List.length hmap
      rw [List.length_map, sortN_len, List.length_map, List.length_take] at this
      omega
    clear hrow hin hmap hlow
    by_cases hlt : j < ks.length
    · obtain ⟨kv, hkv⟩ : ∃ kv, ks[j]? = some kv := ⟨_, List.getElem?_eq_getElem hlt⟩
      obtain ⟨b, off, rfl, s0, s1, s2⟩ := (HR.out.below HL.out).get hkv
      have HKV : Hid (ks[j]? = some kv) := hkv
      have HTk : Hid (TmAt wr kv.x kv.a kv.c kv.l) := (HK.out kv (List.mem_of_getElem? hkv)).below HL.out
      obtain ⟨oa, ocap, rfl, hoc, hocm, hot, honil, hosome⟩ := row_of_owns HRow.out
      have HOT : Hid (RowAt wr oa out.length out) := hot
      obtain ⟨wo, rfl⟩ : ∃ wo, wo = wr := ⟨wr, rfl⟩
      have hjn : (j : Int) < (ks.length : Int) := by omega
      have hj0 : (0 : Int) ≤ (j : Int) := by omega
      clear hot hkv
      rcases oa with _ | ⟨g, o2, sp⟩
      · obtain ⟨ho0, rfl⟩ := honil rfl
        obtain rfl : out = [] := List.length_eq_zero_iff.1 ho0
        clear ho0 hosome honil
        have hd : decide (0 < 0) = false := by simp
        go_wp2
        go_loopw [5] (fun av W => av = .int .i64 0 ∧ Below wo.heap.size wo W) (fun av _ => (intOf av).toNat)
        case atStart => exact ⟨rfl, Below.refl _ _⟩
        case round =>
          obtain ⟨rfl, hW⟩ := hrel
          have HW : Hid (Below wo.heap.size wo wr) := hW
          have hF : Hid (Found ([] : List Kv) kv 0) := ⟨Nat.le_refl _, fun q y _ hy => by simp at hy, .inl rfl⟩
          have hne := later_some wr
          clear hW
          go_wp2_with fail
          refine wp_region_later (by kernel_rfl) (by kernel_rfl) ?_
          repeat (go_big_quiet_step (fail))
          refine wpQuiet_nil ?_
          intro _ hw'
          obtain ⟨b3, hw''⟩ := hw'
          subst hw''
          have HW9 : Hid (Below wo.heap.size wo b3.now) := HW.out.trans (b3.below.mono HW.out.size)
          obtain ⟨W9, hW9⟩ : ∃ W9, b3.now = W9 := ⟨_, rfl⟩
          rw [hW9] at HW9 ⊢
          clear hW9 hne
          have HA9 : Hid (Below W9.heap.size W9 (W9.alloc (.cells #[] 26))) := (Below.refl _ _).alloc (Nat.le_refl _) _
          have HO9 : Hid (RowAt (W9.alloc (.cells #[] 26)) none 0 []) := (HOT.out.below HW9.out).below HA9.out
          have hz9 := HW9.out.size
          go_wp2_with (at_builtin; first
            | (refine wpList_append_kvs rfl (.tmp 32) (.tmp 35) rfl W9.heap.size _ [] rfl (row_empty26 W9) none 0 0 (([] : List Kv)) rfl HO9.out (fun _ => rfl) (by simp <;> omega) (by simp) ?_; intro v1 w1 hown1 hgrow1; have HB1 : Hid (Below W9.heap.size W9 w1) := HA9.out.grown hgrow1 (by simp) (fun k e => by cases e; exact Nat.le_refl _); have HO1 : Hid (w1.ownsRow W9.heap.size 26 3 v1 (([] : List Kv)).length (kvCells (([] : List Kv)))) := hown1; have t0 := below_cell (HW9.out.trans (HB1.out.mono hz9)) _ _ s0; have t1 := below_cell (HW9.out.trans (HB1.out.mono hz9)) _ _ s1; have t2 := below_cell (HW9.out.trans (HB1.out.mono hz9)) _ _ s2; have hz1 := HB1.out.size; clear hown1 hgrow1)
            | (refine wpList_append_kvs rfl (.tmp 37) (.tmp 42) rfl W9.heap.size v1 (([] : List Kv)) rfl (owns_below HO1.out ((Below.refl _ _).alloc (Nat.le_refl _) _)) (some ⟨w1.heap.size, 0, none⟩) 1 1 [kv] rfl (RowAt.new w1 kv) (fun e => by cases e) (by simp <;> omega) (by rw [World.size_alloc]; omega) ?_; intro v2 w2 hown2 hgrow2; have HB2 : Hid (Below W9.heap.size W9 w2) := (HB1.out.alloc hz1 _).grown hgrow2 (by rw [World.size_alloc]; omega) (fun k e => (owns_cells HO1.out e).1); have HO2 : Hid (w2.ownsRow W9.heap.size 26 3 v2 (([] : List Kv) ++ [kv]).length (kvCells (([] : List Kv) ++ [kv]))) := hown2; have HR2 : Hid (RowAt w2 none 0 []) := (HOT.out.below HW9.out).below HB2.out; have hz2 := HB2.out.size; clear hown2 hgrow2)
            | (refine wpList_append_kvs rfl (.tmp 44) (.tmp 47) rfl W9.heap.size v2 (([] : List Kv) ++ [kv]) rfl HO2.out none 0 0 [] rfl (RowAt.empty _ _) (fun _ => rfl) (by simp <;> omega) hz2 ?_; intro v3 w3 hown3 hgrow3; have HB3 : Hid (Below W9.heap.size W9 w3) := HB2.out.grown hgrow3 hz2 (fun k e => (owns_cells HO2.out e).1); have HO3 : Hid (w3.ownsRow W9.heap.size 26 3 v3 (([] : List Kv) ++ [kv] ++ ([] : List Kv)).length (kvCells (([] : List Kv) ++ [kv] ++ ([] : List Kv)))) := hown3; clear hown3 hgrow3))
          go_roundw
          case rel =>
            refine ⟨j + 1, v3, ([] : List Kv) ++ [kv] ++ ([] : List Kv), by omega, rfl, by go_num, owns_base HO3.out (by have := HL.out.size; omega), ?_, ?_, HL.out.trans ((HW9.out.trans (HB3.out.mono hz9)).mono HL.out.size)⟩
            · intro k hk
              simp at hk
              subst hk
              exact List.mem_of_getElem? HKV.out
            · rw [show ([] ++ [kv] ++ [] : List Kv).map Kv.tn = insN kv.tn (([] : List Kv).map Kv.tn) from rfl, HM.out, ← sortN_snoc, List.take_add_one, HKV.out]
              simp
          case measure => simp [intOf]; omega
      · obtain ⟨_, rfl, rfl⟩ := hosome _ _ _ rfl
        clear honil hosome
        go_wp2
        go_loopw [5] (fun av W => ∃ p : Nat, p ≤ out.length ∧ av = .int .i64 p ∧ Below wo.heap.size wo W ∧ (∀ q y, p ≤ q → out[q]? = some y → cmpN y.tn kv.tn > 0)) (fun av _ => (intOf av).toNat)
        case atStart => exact ⟨out.length, Nat.le_refl _, rfl, Below.refl _ _, fun q y hq hy => by rw [List.getElem?_eq_none hq] at hy; cases hy⟩
        case round =>
          obtain ⟨p, hp, rfl, hW, hgt⟩ := hrel
          have HW : Hid (Below wo.heap.size wo wr) := hW
          have HGt : Hid (∀ q y, p ≤ q → out[q]? = some y → cmpN y.tn kv.tn > 0) := hgt
          clear hW hgt
          cases p with
          | zero =>
            have hF : Hid (Found out kv 0) := ⟨hp, HGt.out, .inl rfl⟩
            have hne := later_some wr
            have hd : decide (0 < 0) = false := by simp
            go_wp2_with fail
            refine wp_region_later (by kernel_rfl) (by kernel_rfl) ?_
            repeat (go_big_quiet_step (fail))
            refine wpQuiet_nil ?_
            intro _ hw'
            obtain ⟨b3, hw''⟩ := hw'
            subst hw''
            have HW9 : Hid (Below wo.heap.size wo b3.now) := HW.out.trans (b3.below.mono HW.out.size)
            obtain ⟨W9, hW9⟩ : ∃ W9, b3.now = W9 := ⟨_, rfl⟩
            rw [hW9] at HW9 ⊢
            clear hW9 hne
            have HA9 : Hid (Below W9.heap.size W9 (W9.alloc (.cells #[] 26))) := (Below.refl _ _).alloc (Nat.le_refl _) _
            have HO9 : Hid (RowAt (W9.alloc (.cells #[] 26)) (some ⟨g, 0, none⟩) out.length out) := (HOT.out.below HW9.out).below HA9.out
            have hz9 := HW9.out.size
            have hpo : 0 ≤ out.length := hF.out.le
            have hq0 : (0 : Int) ≤ ((0 : Nat) : Int) := by omega
            have hq1 : ((0 : Nat) : Int) ≤ (out.length : Int) := by omega
            have hq2 : ((0 : Nat) : Int) ≤ (ocap : Int) := by omega
            go_wp2_with (at_builtin; first
              | (refine wpList_append_kvs rfl (.tmp 32) (.tmp 35) rfl W9.heap.size _ [] rfl (row_empty26 W9) (some ⟨g, 0, none⟩) (0) ocap (out.take (0)) rfl (HO9.out.take hF.out.le) (fun e => by cases e) (by simp <;> omega) (by simp) ?_; intro v1 w1 hown1 hgrow1; have HB1 : Hid (Below W9.heap.size W9 w1) := HA9.out.grown hgrow1 (by simp) (fun k e => by cases e; exact Nat.le_refl _); have HO1 : Hid (w1.ownsRow W9.heap.size 26 3 v1 (out.take (0)).length (kvCells (out.take (0)))) := hown1; have t0 := below_cell (HW9.out.trans (HB1.out.mono hz9)) _ _ s0; have t1 := below_cell (HW9.out.trans (HB1.out.mono hz9)) _ _ s1; have t2 := below_cell (HW9.out.trans (HB1.out.mono hz9)) _ _ s2; have hz1 := HB1.out.size; clear hown1 hgrow1)
              | (refine wpList_append_kvs rfl (.tmp 37) (.tmp 42) rfl W9.heap.size v1 (out.take (0)) rfl (owns_below HO1.out ((Below.refl _ _).alloc (Nat.le_refl _) _)) (some ⟨w1.heap.size, 0, none⟩) 1 1 [kv] rfl (RowAt.new w1 kv) (fun e => by cases e) (by simp <;> omega) (by rw [World.size_alloc]; omega) ?_; intro v2 w2 hown2 hgrow2; have HB2 : Hid (Below W9.heap.size W9 w2) := (HB1.out.alloc hz1 _).grown hgrow2 (by rw [World.size_alloc]; omega) (fun k e => (owns_cells HO1.out e).1); have HO2 : Hid (w2.ownsRow W9.heap.size 26 3 v2 (out.take (0) ++ [kv]).length (kvCells (out.take (0) ++ [kv]))) := hown2; have HR2 : Hid (RowAt w2 (some ⟨g, 0, none⟩) out.length out) := (HOT.out.below HW9.out).below HB2.out; have hz2 := HB2.out.size; clear hown2 hgrow2)
              | (refine wpList_append_kvs rfl (.tmp 44) (.tmp 47) rfl W9.heap.size v2 (out.take (0) ++ [kv]) rfl HO2.out (some ⟨g, 0, none⟩) out.length ocap (out.drop (0)) rfl (by simpa using HR2.out) (fun e => by cases e) (by simp <;> omega) hz2 ?_; intro v3 w3 hown3 hgrow3; have HB3 : Hid (Below W9.heap.size W9 w3) := HB2.out.grown hgrow3 hz2 (fun k e => (owns_cells HO2.out e).1); have HO3 : Hid (w3.ownsRow W9.heap.size 26 3 v3 (out.take (0) ++ [kv] ++ out.drop (0)).length (kvCells (out.take (0) ++ [kv] ++ out.drop (0)))) := hown3; clear hown3 hgrow3))
            go_roundw
            case rel =>
              refine ⟨j + 1, v3, out.take (0) ++ [kv] ++ out.drop (0), by omega, rfl, by go_num, owns_base HO3.out (by have := HL.out.size; omega), ?_, ?_, HL.out.trans ((HW9.out.trans (HB3.out.mono hz9)).mono HL.out.size)⟩
              · intro k hk
                simp only [List.mem_append, List.mem_singleton] at hk
                rcases hk with (hk | rfl) | hk
                · exact HIn.out k (List.mem_of_mem_take hk)
                · exact List.mem_of_getElem? HKV.out
                · exact HIn.out k (List.mem_of_mem_drop hk)
              · rw [hF.out.ins (by rw [HM.out]; exact sortN_srt _), HM.out, ← sortN_snoc, List.take_add_one, HKV.out]
                simp
            case measure => simp [intOf]; omega
          | succ p =>
            obtain ⟨y, hy⟩ : ∃ y, out[p]? = some y := ⟨_, List.getElem?_eq_getElem (by omega)⟩
            obtain ⟨b2, off2, e, y0, y1, y2⟩ := (HOT.out.below HW.out).get hy
            cases e
            rw [Nat.zero_add] at y0 y1 y2
            have HC : Hid (∀ V, Below wr.heap.size wr V → Calls Try.prog 47 #[.agg #[.string y.x.1, .int .i64 y.x.2, .slice y.a (lenF y.l) y.c], .agg #[.string kv.x.1, .int .i64 kv.x.2, .slice kv.a (lenF kv.l) kv.c]] V fun e w' => e = .returned (.int .i64 (cmpN y.tn kv.tn)) ∧ Below V.heap.size V w') := fun V hV =>
              rcompare_all _ y.x kv.x y.a kv.a y.c kv.c y.l kv.l V (Nat.le_refl _) ((((HK.out y (HIn.out y (List.mem_of_getElem? hy))).below HL.out).below HW.out).below hV) ((HTk.out.below HW.out).below hV)
            obtain ⟨cv, hcv⟩ : ∃ cv, cmpN y.tn kv.tn = cv := ⟨_, rfl⟩
            rw [hcv] at HC
            have HY : Hid (out[p]? = some y) := hy
            have HCV : Hid (cmpN y.tn kv.tn = cv) := hcv
            have t0 := below_cell HW.out _ _ s0
            have t1 := below_cell HW.out _ _ s1
            have t2 := below_cell HW.out _ _ s2
            have hne := later_some wr
            have d0 := later_cell y0; have d1 := later_cell y1; have d2 := later_cell y2
            have d3 := later_cell t0; have d4 := later_cell t1; have d5 := later_cell t2
            have hd : decide (0 < p + 1) = true := by simp
            have hp0 : (0 : Int) ≤ (p : Int) := by omega
            have hpn : (p : Int) < (out.length : Int) := by omega
            clear hy hcv y0 y1 y2 t0 t1 t2
            go_wp2_with fail
            refine wp_region_later (by kernel_rfl) (by kernel_rfl) ?_
            repeat (go_big_quiet_step (first | (go_at_call 47; refine calls_later (HC.out _ ?_); exact Later.below _) | fail))
            by_cases hc : 0 < cv
            · refine wpQuiet_nil ?_
              intro _ hw'
              obtain ⟨b3, hw''⟩ := hw'
              subst hw''
              have HW9 : Hid (Below wo.heap.size wo b3.now) := HW.out.trans (b3.below.mono HW.out.size)
              clear d0 d1 d2 d3 d4 d5 hne
              go_wp2
              go_roundw
              case rel =>
                refine ⟨p, by omega, by go_num, HW9.out, fun q z hq hz => ?_⟩
                rcases Nat.lt_or_ge p q with h | h
                · exact HGt.out q z h hz
                · obtain rfl : q = p := by omega
                  rw [HY.out] at hz
                  cases hz
                  rw [HCV.out]
                  exact hc
              case measure => simp [intOf]
            · have hF : Hid (Found out kv (p + 1)) := ⟨hp, HGt.out, .inr (fun z hz => by rw [Nat.add_sub_cancel, HY.out] at hz; cases hz; rw [HCV.out]; omega)⟩
              refine wpQuiet_nil ?_
              intro _ hw'
              obtain ⟨b3, hw''⟩ := hw'
              subst hw''
              have HW9 : Hid (Below wo.heap.size wo b3.now) := HW.out.trans (b3.below.mono HW.out.size)
              obtain ⟨W9, hW9⟩ : ∃ W9, b3.now = W9 := ⟨_, rfl⟩
              rw [hW9] at HW9 ⊢
              clear hW9 d0 d1 d2 d3 d4 d5 hne
              have HA9 : Hid (Below W9.heap.size W9 (W9.alloc (.cells #[] 26))) := (Below.refl _ _).alloc (Nat.le_refl _) _
              have HO9 : Hid (RowAt (W9.alloc (.cells #[] 26)) (some ⟨g, 0, none⟩) out.length out) := (HOT.out.below HW9.out).below HA9.out
              have hz9 := HW9.out.size
              have hpo : (p + 1) ≤ out.length := hF.out.le
              have hq0 : (0 : Int) ≤ (((p + 1) : Nat) : Int) := by omega
              have hq1 : (((p + 1) : Nat) : Int) ≤ (out.length : Int) := by omega
              have hq2 : (((p + 1) : Nat) : Int) ≤ (ocap : Int) := by omega
              by_cases hcap : ocap = p + 1
              · have hdr : out.drop (p + 1) = [] := List.drop_eq_nil_of_le (by omega)
                have hx1 : out.length - (p + 1) = 0 := by omega
                have hx2 : ocap - (p + 1) = 0 := by omega
                have Hcap : Hid (ocap = p + 1) := hcap
                clear hcap
                go_wp2_with (at_builtin; first
                  | (refine wpList_append_kvs rfl (.tmp 32) (.tmp 35) rfl W9.heap.size _ [] rfl (row_empty26 W9) (some ⟨g, 0, none⟩) ((p + 1)) ocap (out.take ((p + 1))) rfl (HO9.out.take hF.out.le) (fun e => by cases e) (by simp <;> omega) (by simp) ?_; intro v1 w1 hown1 hgrow1; have HB1 : Hid (Below W9.heap.size W9 w1) := HA9.out.grown hgrow1 (by simp) (fun k e => by cases e; exact Nat.le_refl _); have HO1 : Hid (w1.ownsRow W9.heap.size 26 3 v1 (out.take ((p + 1))).length (kvCells (out.take ((p + 1))))) := hown1; have t0 := below_cell (HW9.out.trans (HB1.out.mono hz9)) _ _ s0; have t1 := below_cell (HW9.out.trans (HB1.out.mono hz9)) _ _ s1; have t2 := below_cell (HW9.out.trans (HB1.out.mono hz9)) _ _ s2; have hz1 := HB1.out.size; clear hown1 hgrow1)
                  | (refine wpList_append_kvs rfl (.tmp 37) (.tmp 42) rfl W9.heap.size v1 (out.take ((p + 1))) rfl (owns_below HO1.out ((Below.refl _ _).alloc (Nat.le_refl _) _)) (some ⟨w1.heap.size, 0, none⟩) 1 1 [kv] rfl (RowAt.new w1 kv) (fun e => by cases e) (by simp <;> omega) (by rw [World.size_alloc]; omega) ?_; intro v2 w2 hown2 hgrow2; have HB2 : Hid (Below W9.heap.size W9 w2) := (HB1.out.alloc hz1 _).grown hgrow2 (by rw [World.size_alloc]; omega) (fun k e => (owns_cells HO1.out e).1); have HO2 : Hid (w2.ownsRow W9.heap.size 26 3 v2 (out.take ((p + 1)) ++ [kv]).length (kvCells (out.take ((p + 1)) ++ [kv]))) := hown2; have HR2 : Hid (RowAt w2 (some ⟨g, 0, none⟩) out.length out) := (HOT.out.below HW9.out).below HB2.out; have hz2 := HB2.out.size; clear hown2 hgrow2)
                  | (refine wpList_append_kvs rfl (.tmp 44) (.tmp 47) rfl W9.heap.size v2 (out.take ((p + 1)) ++ [kv]) rfl HO2.out (some ⟨g, 0, none⟩) 0 0 (out.drop ((p + 1))) rfl (by rw [hdr]; exact RowAt.empty _ _) (fun e => by cases e) (by simp <;> omega) hz2 ?_; intro v3 w3 hown3 hgrow3; have HB3 : Hid (Below W9.heap.size W9 w3) := HB2.out.grown hgrow3 hz2 (fun k e => (owns_cells HO2.out e).1); have HO3 : Hid (w3.ownsRow W9.heap.size 26 3 v3 (out.take ((p + 1)) ++ [kv] ++ out.drop ((p + 1))).length (kvCells (out.take ((p + 1)) ++ [kv] ++ out.drop ((p + 1))))) := hown3; clear hown3 hgrow3))
                go_roundw
                case rel =>
                  refine ⟨j + 1, v3, out.take ((p + 1)) ++ [kv] ++ out.drop ((p + 1)), by omega, rfl, by go_num, owns_base HO3.out (by have := HL.out.size; omega), ?_, ?_, HL.out.trans ((HW9.out.trans (HB3.out.mono hz9)).mono HL.out.size)⟩
                  · intro k hk
                    simp only [List.mem_append, List.mem_singleton] at hk
                    rcases hk with (hk | rfl) | hk
                    · exact HIn.out k (List.mem_of_mem_take hk)
                    · exact List.mem_of_getElem? HKV.out
                    · exact HIn.out k (List.mem_of_mem_drop hk)
                  · rw [hF.out.ins (by rw [HM.out]; exact sortN_srt _), HM.out, ← sortN_snoc, List.take_add_one, HKV.out]
                    simp
                case measure => simp [intOf]; omega
              · have hx3 : ¬ (ocap - (p + 1) = 0) := by omega
                go_wp2_with (at_builtin; first
                  | (refine wpList_append_kvs rfl (.tmp 32) (.tmp 35) rfl W9.heap.size _ [] rfl (row_empty26 W9) (some ⟨g, 0, none⟩) ((p + 1)) ocap (out.take ((p + 1))) rfl (HO9.out.take hF.out.le) (fun e => by cases e) (by simp <;> omega) (by simp) ?_; intro v1 w1 hown1 hgrow1; have HB1 : Hid (Below W9.heap.size W9 w1) := HA9.out.grown hgrow1 (by simp) (fun k e => by cases e; exact Nat.le_refl _); have HO1 : Hid (w1.ownsRow W9.heap.size 26 3 v1 (out.take ((p + 1))).length (kvCells (out.take ((p + 1))))) := hown1; have t0 := below_cell (HW9.out.trans (HB1.out.mono hz9)) _ _ s0; have t1 := below_cell (HW9.out.trans (HB1.out.mono hz9)) _ _ s1; have t2 := below_cell (HW9.out.trans (HB1.out.mono hz9)) _ _ s2; have hz1 := HB1.out.size; clear hown1 hgrow1)
                  | (refine wpList_append_kvs rfl (.tmp 37) (.tmp 42) rfl W9.heap.size v1 (out.take ((p + 1))) rfl (owns_below HO1.out ((Below.refl _ _).alloc (Nat.le_refl _) _)) (some ⟨w1.heap.size, 0, none⟩) 1 1 [kv] rfl (RowAt.new w1 kv) (fun e => by cases e) (by simp <;> omega) (by rw [World.size_alloc]; omega) ?_; intro v2 w2 hown2 hgrow2; have HB2 : Hid (Below W9.heap.size W9 w2) := (HB1.out.alloc hz1 _).grown hgrow2 (by rw [World.size_alloc]; omega) (fun k e => (owns_cells HO1.out e).1); have HO2 : Hid (w2.ownsRow W9.heap.size 26 3 v2 (out.take ((p + 1)) ++ [kv]).length (kvCells (out.take ((p + 1)) ++ [kv]))) := hown2; have HR2 : Hid (RowAt w2 (some ⟨g, 0, none⟩) out.length out) := (HOT.out.below HW9.out).below HB2.out; have hz2 := HB2.out.size; clear hown2 hgrow2)
                  | (refine wpList_append_kvs rfl (.tmp 44) (.tmp 47) rfl W9.heap.size v2 (out.take ((p + 1)) ++ [kv]) rfl HO2.out (some ⟨g, (p + 1) * 3, none⟩) (out.length - (p + 1)) (ocap - (p + 1)) (out.drop ((p + 1))) rfl (by have := HR2.out.drop (p := p + 1) hpo; rwa [Nat.zero_add] at this) (fun e => by cases e) (by simp <;> omega) hz2 ?_; intro v3 w3 hown3 hgrow3; have HB3 : Hid (Below W9.heap.size W9 w3) := HB2.out.grown hgrow3 hz2 (fun k e => (owns_cells HO2.out e).1); have HO3 : Hid (w3.ownsRow W9.heap.size 26 3 v3 (out.take ((p + 1)) ++ [kv] ++ out.drop ((p + 1))).length (kvCells (out.take ((p + 1)) ++ [kv] ++ out.drop ((p + 1))))) := hown3; clear hown3 hgrow3))
                go_roundw
                case rel =>
                  refine ⟨j + 1, v3, out.take ((p + 1)) ++ [kv] ++ out.drop ((p + 1)), by omega, rfl, by go_num, owns_base HO3.out (by have := HL.out.size; omega), ?_, ?_, HL.out.trans ((HW9.out.trans (HB3.out.mono hz9)).mono HL.out.size)⟩
                  · intro k hk
                    simp only [List.mem_append, List.mem_singleton] at hk
                    rcases hk with (hk | rfl) | hk
                    · exact HIn.out k (List.mem_of_mem_take hk)
                    · exact List.mem_of_getElem? HKV.out
                    · exact HIn.out k (List.mem_of_mem_drop hk)
                  · rw [hF.out.ins (by rw [HM.out]; exact sortN_srt _), HM.out, ← sortN_snoc, List.take_add_one, HKV.out]
                    simp
                case measure => simp [intOf]; omega
    · obtain rfl : j = ks.length := by omega
      have HM' : Hid (out.map Kv.tn = sortN (ks.map Kv.tn)) := by have := HM.out; rwa [List.take_length] at this
      go_wp2
      go_ret
      exact ⟨v, out, rfl, HRow.out, HIn.out, HM'.out, HL.out⟩
end Go.Proofs.Ytfnfbljijkjkjaa
