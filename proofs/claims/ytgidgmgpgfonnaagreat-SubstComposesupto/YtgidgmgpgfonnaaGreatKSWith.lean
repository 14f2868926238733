import Derived.Test.YtgidgmgpgfonnaaGreatKSBk
/- What the document's With answers. -/
namespace Go.Proofs.YtgidgmgpgfonnaaGreat
open Go.RowKit Go.Deep

/-- Binds side by side in memory. -/
structure RowB (w : World) (a : Option Addr) (n : Nat) (ks : List Bk) : Prop where
  len : n = ks.length
  cells : ∀ j u, (bkAll ks)[j]? = some u → ∃ b off, a = some ⟨b, off, none⟩ ∧ w.cell? ⟨b, off + j, none⟩ = some u
theorem RowB.below {w w' : World} {a : Option Addr} {n : Nat} {ks : List Bk} (h : RowB w a n ks) (hb : Below w.heap.size w w') : RowB w' a n ks :=
  ⟨h.len, fun j u hu => by obtain ⟨b, off, ha, hc⟩ := h.cells j u hu; exact ⟨b, off, ha, bd_cell hb _ _ hc⟩⟩
theorem RowB.empty (w : World) (a : Option Addr) : RowB w a 0 [] := ⟨rfl, fun j u hu => by simp [bkAll] at hu⟩
theorem RowB.of {w : World} {B g n cap : Nat} {ks : List Bk} (h : w.ownsRow B 43 4 (.slice (some ⟨g, 0, none⟩) n cap) n (bkAll ks)) (hn : n = ks.length) : RowB w (some ⟨g, 0, none⟩) n ks := ⟨hn, fun j u hu => ⟨g, 0, rfl, owns_at h j u hu⟩⟩
theorem bkAll_take : ∀ (ks : List Bk) (p : Nat), (bkAll ks).take (p * 4) = bkAll (ks.take p)
  | [], p => by simp [bkAll]
  | x :: r, 0 => by simp [bkAll]
  | x :: r, p + 1 => by
    show (bkCells x ++ bkAll r).take ((p + 1) * 4) = bkCells x ++ bkAll (r.take p)
    rw [List.take_append, List.take_of_length_le (by simp [bkCells]; omega), ← bkAll_take r p]
    congr 2
    simp [bkCells]; omega
theorem bkAll_drop : ∀ (ks : List Bk) (p : Nat), (bkAll ks).drop (p * 4) = bkAll (ks.drop p)
  | [], p => by simp [bkAll]
  | x :: r, 0 => by simp [bkAll]
  | x :: r, p + 1 => by
    show (bkCells x ++ bkAll r).drop ((p + 1) * 4) = bkAll (r.drop p)
    rw [List.drop_append, List.drop_eq_nil_of_le (by simp [bkCells]; omega), List.nil_append, ← bkAll_drop r p]
    congr 1
    simp [bkCells]; omega
theorem RowB.take {w : World} {a : Option Addr} {n p : Nat} {ks : List Bk} (h : RowB w a n ks) (hp : p ≤ ks.length) : RowB w a p (ks.take p) := ⟨by rw [List.length_take]; omega, fun j u hu => h.cells j u (by rw [← bkAll_take, List.getElem?_take] at hu; split at hu; exact hu; cases hu)⟩
theorem RowB.drop {w : World} {b off n p : Nat} {ks : List Bk} (h : RowB w (some ⟨b, off, none⟩) n ks) (_hp : p ≤ ks.length) : RowB w (some ⟨b, off + p * 4, none⟩) (n - p) (ks.drop p) := ⟨by rw [List.length_drop, h.len], fun j u hu => by
  rw [← bkAll_drop, List.getElem?_drop] at hu
  obtain ⟨b', off', e, hc⟩ := h.cells _ u hu
  cases e
  exact ⟨b, off + p * 4, rfl, by rw [Nat.add_assoc]; exact hc⟩⟩
theorem RowB.new (w : World) (k : Bk) : RowB (w.alloc (.cells #[.string k.1, .string k.2.x.1, .int .i64 k.2.x.2, .slice k.2.a (lenF k.2.l) k.2.c] 43)) (some ⟨w.heap.size, 0, none⟩) 1 [k] := ⟨rfl, fun j u hu => ⟨w.heap.size, 0, rfl, by
  have e : bkAll [k] = bkCells k := by simp [bkAll]
  rw [e] at hu
  have hb : (w.alloc (.cells #[.string k.1, .string k.2.x.1, .int .i64 k.2.x.2, .slice k.2.a (lenF k.2.l) k.2.c] 43)).heap[w.heap.size]? = some (.cells #[.string k.1, .string k.2.x.1, .int .i64 k.2.x.2, .slice k.2.a (lenF k.2.l) k.2.c] 43 (0, 0)) := World.alloc_heap_new w _
  rw [Nat.zero_add]
  simp only [World.cell?, hb]
  simpa [bkCells] using hu⟩⟩
theorem bkAll_append (l m : List Bk) : bkAll (l ++ m) = bkAll l ++ bkAll m := by simp [bkAll]
theorem bkAll_one (l : List Bk) : ∀ u ∈ bkAll l, u.oneCell' = true := fun u hu => by
  obtain ⟨k, _, hk⟩ := List.mem_flatMap.1 hu
  exact bk_one k u hk
theorem row_empty43 (W : World) : (W.alloc (.cells #[] 43)).ownsRow W.heap.size 43 4 (.slice (some ⟨W.heap.size, 0, none⟩) 0 0) 0 (bkAll []) :=
  ⟨rfl, Or.inr ⟨W.heap.size, 0, #[], rfl, Nat.le_refl _, World.alloc_heap_new W _, Nat.le_refl _, by simp, rfl, rfl⟩⟩
set_option maxRecDepth 100000 in
/-- append of what another slice holds, be it nil, be it empty. -/
theorem wpList_append_bks {ops : Array Oper} {rest : List Oper} {o : Oper} {a : Act} {Q : Exit → Act → World → Prop} {W : World} (hgd : o.guard = none) (s x : Operand)
    (ho : o.op = .call { callee := .builtin .append, args := #[s, x], argTypes := #[24, 24] }) (base : Nat) (v : Value) (ks : List Bk) (hs : a.eval s = v) (hown : W.ownsRow base 43 4 v ks.length (bkAll ks))
    (sa : Option Addr) (m c : Nat) (ms : List Bk) (hx : a.eval x = .slice sa m c) (hm : RowB W sa m ms) (hnil : sa = none → c = 0) (hbig : ks.length + m ≤ 2097152) (hbase : base ≤ W.heap.size)
    (h : ∀ v' w', w'.ownsRow base 43 4 v' (ks ++ ms).length (bkAll (ks ++ ms)) → W.grownBy w' v.ownBlock → wpList Tryz.prog ops Q rest (a.put o.dst v') w') : wpList Tryz.prog ops Q (o :: rest) a W := by
  obtain ⟨i0, hi, hz0, hz1, hz2⟩ := info_parts Tryz.info43
  have hmax : maxLen = 9223372036854775807 := rfl
  rcases sa with _ | ⟨b, off, sp⟩
  · obtain rfl : ms = [] := by
      cases ms with
      | nil => rfl
      | cons k r =>
        obtain ⟨_, _, e, _⟩ := hm.cells 0 (.string k.1) rfl
        cases e
    obtain rfl := hm.len
    obtain rfl := hnil rfl
    refine wpList_append_own_none hgd s x 24 ho base 43 i0 4 Tryz.underlying24 hi v ks.length (bkAll ks) hs hown hx (h v W (by simpa using hown) ?_)
    exact ⟨rfl, rfl, rfl, Nat.le_refl _, fun _ _ _ => rfl⟩
  · have hlm := hm.len
    refine wpList_append_own _ hgd s x 24 ho base 43 i0 _ 4 64 Tryz.underlying24 hi hz0 hz1 hz2 rfl (by decide) v ks.length (bkAll ks) hs hown ⟨b, off, sp⟩ m c (bkAll ms) hx (by rw [bkAll_len, hlm]) (fun j u hu => ?_) (bkAll_one ms) (by omega) (by omega) hbase ?_
    · obtain ⟨b', off', e, hc⟩ := hm.cells j u hu
      cases e
      rw [← hc]
      congr 1
      unfold Addr.add
      split <;> simp_all
    · intro v' w' h1 h2 _
      refine h v' w' ?_ h2
      rw [bkAll_append, List.length_append, ← hlm]
      exact h1
/-- What With leaves. -/
def WithEnd (ks : List Bk) (k : Bk) (w : World) (e : Ending) (w' : World) : Prop := ∃ (v : Value) (j : Nat), e = .returned v ∧ j ≤ ks.length ∧ (∀ z ∈ ks.drop j, leS z.1 k.1 = false) ∧ (∀ z, 0 < j → ks[j - 1]? = some z → leS z.1 k.1 = true) ∧ w'.ownsRow w.heap.size 43 4 v (ks.take j ++ [k] ++ ks.drop j).length (bkAll (ks.take j ++ [k] ++ ks.drop j)) ∧ Below w.heap.size w w'
set_option maxRecDepth 100000 in
set_option maxHeartbeats 8000000 in
theorem with_any (B : Nat) (bv : Value) (ks : List Bk) (vn : ByteArray) (x : ByteArray × Int) (l : Fo) (a : Option Addr) (c : Nat) (w : World) (hR : w.ownsRow B 43 4 bv ks.length (bkAll ks)) (hn : ks.length ≤ 1048576) :
    Calls Tryz.prog 35 #[bv, .agg #[.string vn, .string x.1, .int .i64 x.2, .slice a (lenF l) c]] w (WithEnd ks (vn, ⟨x, l, a, c⟩) w) := by
  have B0 : Hid (Box (w.alloc (.cells #[.string vn, .string x.1, .int .i64 x.2, .slice a (lenF l) c] 43)) w.heap.size 43 #[.string vn, .string x.1, .int .i64 x.2, .slice a (lenF l) c]) := hid (Box.new w 43 _)
  have L0 := hid (alloc_below0 w (.cells #[.string vn, .string x.1, .int .i64 x.2, .slice a (lenF l) c] 43))
  have hmax : maxLen = 9223372036854775807 := rfl
  rcases hR.2 with ⟨hv, hk0⟩ | ⟨g, bcap, cur, hv, _, _, hnc, hcm, _⟩
  · obtain rfl : ks = [] := List.eq_nil_of_length_eq_zero hk0
    subst hv
    clear hR hk0
    go_enter Tryz.func35, Tryz.ntmps35
    go_wp2_with fail
    generalize w.alloc (.cells #[.string vn, .string x.1, .int .i64 x.2, .slice a (lenF l) c] 43) = V at B0 L0 ⊢
    go_loopw [5] (fun jv wr => jv = .int .i64 0 ∧ Below V.heap.size V wr) (fun _ _ => 0)
    case atStart => exact ⟨rfl, Below.refl _ _⟩
    case round =>
      obtain ⟨rfl, hlow⟩ := hrel
      have HW := hid hlow
      have hne := later_some wr
      clear hlow
      go_wp2_with fail
      refine wp_region_later (by kernel_rfl) (by kernel_rfl) ?_
      repeat (go_big_quiet_step (fail))
      refine wpQuiet_nil ?_
      intro _ hw'
      obtain ⟨b3, hw''⟩ := hw'
      subst hw''
      have HW9 := hid (HW.out.trans (b3.below.mono HW.out.size))
      obtain ⟨W9, hW9⟩ : ∃ W9, b3.now = W9 := ⟨_, rfl⟩
      rw [hW9] at HW9 ⊢
      clear hW9 hne
      have A9 := hid (alloc_below0 W9 (.cells #[] 43))
      go_wp2_with (at_builtin; first
        | (refine wpList_append_bks rfl (.tmp 24) (.tmp 27) rfl W9.heap.size _ [] rfl (row_empty43 W9) none 0 0 [] rfl (RowB.empty _ _) (fun _ => rfl) (by simp) (by simp) ?_; intro v1 w1 hown1 hgrow1; have HB1 := hid (A9.out.grown hgrow1 (by simp) (fun k e => by cases e; exact Nat.le_refl _)); have HO1 := hid hown1; have Q := (B0.out.below HW9.out).below HB1.out; have t0 := Q.c 0; have t1 := Q.c 1; have t2 := Q.c 2; have t3 := Q.c 3; clear hown1 hgrow1 Q)
        | (refine wpList_append_bks rfl (.tmp 29) (.tmp 31) rfl W9.heap.size v1 [] rfl (owns_below HO1.out (alloc_below0 w1 _)) (some ⟨w1.heap.size, 0, none⟩) 1 1 [(vn, ⟨x, l, a, c⟩)] rfl (RowB.new w1 (vn, ⟨x, l, a, c⟩)) (fun e => by cases e) (by simp) (by have := HB1.out.size; rw [World.size_alloc]; omega) ?_; intro v2 w2 hown2 hgrow2; have HB2 := hid ((HB1.out.alloc HB1.out.size _).grown hgrow2 (by have := HB1.out.size; rw [World.size_alloc]; omega) (fun k e => (owns_cells HO1.out e).1)); have HO2 := hid hown2; clear hown2 hgrow2)
        | (refine wpList_append_bks rfl (.tmp 33) (.tmp 36) rfl W9.heap.size v2 [(vn, ⟨x, l, a, c⟩)] rfl HO2.out none 0 0 [] rfl (RowB.empty _ _) (fun _ => rfl) (by simp) HB2.out.size ?_; intro v3 w3 hown3 hgrow3; have HB3 := hid (HB2.out.grown hgrow3 HB2.out.size (fun k e => (owns_cells HO2.out e).1)); have HO3 := hid hown3; clear hown3 hgrow3))
      go_ret
      refine ⟨v3, 0, rfl, Nat.le_refl _, by simp, fun z h => absurd h (by omega), ?_, ?_⟩
      · exact owns_base HO3.out (Nat.le_trans L0.out.size HW9.out.size)
      · exact L0.out.trans ((HW9.out.trans (HB3.out.mono HW9.out.size)).mono L0.out.size)
  · subst hv
    have hRB := RowB.of hR rfl
    have HRB := hid (hRB.below L0.out)
    clear hR hRB
    go_enter Tryz.func35, Tryz.ntmps35
    go_wp2_with fail
    generalize w.alloc (.cells #[.string vn, .string x.1, .int .i64 x.2, .slice a (lenF l) c] 43) = V at B0 L0 HRB ⊢
    go_loopw [5] (fun jv wr => ∃ j : Nat, j ≤ ks.length ∧ jv = .int .i64 j ∧ (∀ z ∈ ks.drop j, leS z.1 vn = false) ∧ Below V.heap.size V wr) (fun jv _ => (intOf jv).toNat)
    case atStart => exact ⟨ks.length, Nat.le_refl _, rfl, by simp, Below.refl _ _⟩
    case round =>
      obtain ⟨j, hj, rfl, hgt, hlow⟩ := hrel
      have HW := hid hlow; have HGT := hid hgt
      have hne := later_some wr
      clear hlow hgt
      have s0 := later_cell ((B0.out.below HW.out).c 0)
      obtain ⟨gv, hgv⟩ : ∃ gv, (decide (0 < j) && match ks[j - 1]? with | some z => !leS z.1 vn | none => false) = gv := ⟨_, rfl⟩
      have HGX := hid hgv
      go_upto_region 2 with fail
      go_cut [21] (fun cv wx => cv = .bool gv ∧ Below wr.heap.size wr wx)
      case first =>
        by_cases hj0 : j = 0
        · subst hj0
          have HGV : Hid (gv = false) := hid (by rw [← hgv]; simp)
          clear hgv
          (refine wp_region_later (by kernel_rfl) (by kernel_rfl) ?_
           repeat (go_big_quiet_step (fail))
           refine wpQuiet_nil ?_
           intro _ hw'
           obtain ⟨b2, hw''⟩ := hw'
           subst hw''
           go_wp2
           go_meet
           exact ⟨congrArg Value.bool (by rw [HGV.out]), b2.below⟩)
        · obtain ⟨jp, rfl⟩ : ∃ jp, j = jp + 1 := ⟨j - 1, by omega⟩
          have hjl : jp < ks.length := by omega
          have hc0 := (HRB.out.below HW.out).cells (jp * 4) (.string ks[jp].1) (by rw [show jp * 4 = jp * 4 + 0 from rfl, bkAll_at ks jp hjl 0 (by decide)]; rfl)
          obtain ⟨b', off', eb, hc0⟩ := hc0
          cases eb
          rw [Nat.zero_add] at hc0
          have r0 := later_cell hc0
          obtain ⟨zn, hzn⟩ : ∃ zn, ks[jp].1 = zn := ⟨_, rfl⟩
          rw [hzn] at r0
          have hgv2 : (!leS zn vn) = gv := by
            rw [← hgv, ← hzn]
            simp [hjl]
          have hjp : (0 : Int) < ((jp + 1 : Nat) : Int) := by omega
          have hjq : (((jp + 1 : Nat) : Int) - 1) = (jp : Int) := by omega
          have hjn : (jp : Int) < (ks.length : Int) := by omega
          clear hc0 hgv hzn
          cases hl1 : Op.bytesLess zn.toList vn.toList
          · by_cases hl2 : zn.toList = vn.toList
            · have HGV : Hid (gv = false) := hid (by rw [← hgv2]; simp [leS, hl2])
              have hlb : (zn.toList == vn.toList) = true := by simp [hl2]
              clear hgv2
              (refine wp_region_later (by kernel_rfl) (by kernel_rfl) ?_
               repeat (go_big_quiet_step (fail))
               refine wpQuiet_nil ?_
               intro _ hw'
               obtain ⟨b2, hw''⟩ := hw'
               subst hw''
               go_wp2
               go_meet
               exact ⟨congrArg Value.bool (by rw [HGV.out]), b2.below⟩)
            · have HGV : Hid (gv = true) := hid (by rw [← hgv2]; simp [leS, hl1, hl2])
              have hlb : (zn.toList == vn.toList) = false := by simp [hl2]
              clear hgv2
              (refine wp_region_later (by kernel_rfl) (by kernel_rfl) ?_
               repeat (go_big_quiet_step (fail))
               refine wpQuiet_nil ?_
               intro _ hw'
               obtain ⟨b2, hw''⟩ := hw'
               subst hw''
               go_wp2
               go_meet
               exact ⟨congrArg Value.bool (by rw [HGV.out]), b2.below⟩)
          · have HGV : Hid (gv = false) := hid (by rw [← hgv2]; simp [leS, hl1])
            clear hgv2
            (refine wp_region_later (by kernel_rfl) (by kernel_rfl) ?_
             repeat (go_big_quiet_step (fail))
             refine wpQuiet_nil ?_
             intro _ hw'
             obtain ⟨b2, hw''⟩ := hw'
             subst hw''
             go_wp2
             go_meet
             exact ⟨congrArg Value.bool (by rw [HGV.out]), b2.below⟩)
      case rest =>
      obtain ⟨rfl, hb5⟩ := hcut
      rename World => W9
      have HW9 := hid (HW.out.trans (hb5.mono HW.out.size))
      clear hb5 hgv s0 hne
      cases gv with
      | true =>
        have hg := HGX.out
        simp only [Bool.and_eq_true, decide_eq_true_eq] at hg
        obtain ⟨hj0, hg2⟩ := hg
        obtain ⟨jp, rfl⟩ : ∃ jp, j = jp + 1 := ⟨j - 1, by omega⟩
        have hjl : jp < ks.length := by omega
        have hnew : ∀ z ∈ ks.drop jp, leS z.1 vn = false := fun z hz => by
          rw [List.drop_eq_getElem_cons hjl] at hz
          rcases List.mem_cons.1 hz with rfl | hz
          · simpa [hjl] using hg2
          · exact HGT.out z hz
        have HNEW := hid hnew
        clear hnew hg2 hjl hj0 HGX
        go_wp2
        go_roundw
        case rel => exact ⟨jp, by omega, by go_num, HNEW.out, HW9.out⟩
        case measure => simp [intOf]
      | false =>
        have HEND : Hid (∀ z, 0 < j → ks[j - 1]? = some z → leS z.1 vn = true) := hid fun z h1 h2 => by
          have hg := HGX.out
          rw [h2] at hg
          simpa [h1] using hg
        clear HGX
        have A9 := hid (alloc_below0 W9 (.cells #[] 43))
        have HR9 := hid ((HRB.out.below HW9.out).below A9.out)
        have hq0 : (0 : Int) ≤ (j : Int) := by omega
        have hq1 : (j : Int) ≤ (ks.length : Int) := by omega
        have hq2 : (j : Int) ≤ (bcap : Int) := by omega
        by_cases hcap : bcap = j
        · have hdr : ks.drop j = [] := List.drop_eq_nil_of_le (by omega)
          have hx1 : ks.length - j = 0 := by omega
          have hx2 : bcap - j = 0 := by omega
          have HDR := hid hdr
          clear hcap hdr
          go_wp2_with (at_builtin; first
            | (refine wpList_append_bks rfl (.tmp 24) (.tmp 27) rfl W9.heap.size _ [] rfl (row_empty43 W9) (some ⟨g, 0, none⟩) j bcap (ks.take j) rfl (HR9.out.take hj) (fun e => by cases e) (by simp; omega) (by simp) ?_; intro v1 w1 hown1 hgrow1; have HB1 := hid (A9.out.grown hgrow1 (by simp) (fun k e => by cases e; exact Nat.le_refl _)); have HO1 := hid hown1; have Q := (B0.out.below HW9.out).below HB1.out; have t0 := Q.c 0; have t1 := Q.c 1; have t2 := Q.c 2; have t3 := Q.c 3; clear hown1 hgrow1 Q)
            | (refine wpList_append_bks rfl (.tmp 29) (.tmp 31) rfl W9.heap.size v1 (ks.take j) rfl (owns_below HO1.out (alloc_below0 w1 _)) (some ⟨w1.heap.size, 0, none⟩) 1 1 [(vn, ⟨x, l, a, c⟩)] rfl (RowB.new w1 (vn, ⟨x, l, a, c⟩)) (fun e => by cases e) (by rw [List.length_take]; omega) (by have := HB1.out.size; rw [World.size_alloc]; omega) ?_; intro v2 w2 hown2 hgrow2; have HB2 := hid ((HB1.out.alloc HB1.out.size _).grown hgrow2 (by have := HB1.out.size; rw [World.size_alloc]; omega) (fun k e => (owns_cells HO1.out e).1)); have HO2 := hid hown2; have HR2 := hid ((HRB.out.below HW9.out).below HB2.out); clear hown2 hgrow2)
            | (refine wpList_append_bks rfl (.tmp 33) (.tmp 36) rfl W9.heap.size v2 (ks.take j ++ [(vn, ⟨x, l, a, c⟩)]) rfl HO2.out (some ⟨g, 0, none⟩) 0 0 (ks.drop j) rfl (by rw [HDR.out]; exact RowB.empty _ _) (fun e => by cases e) (by rw [List.length_append, List.length_take, List.length_singleton]; omega) HB2.out.size ?_; intro v3 w3 hown3 hgrow3; have HB3 := hid (HB2.out.grown hgrow3 HB2.out.size (fun k e => (owns_cells HO2.out e).1)); have HO3 := hid hown3; clear hown3 hgrow3))
          go_ret
          exact ⟨v3, j, rfl, hj, HGT.out, HEND.out, owns_base HO3.out (Nat.le_trans L0.out.size HW9.out.size), L0.out.trans ((HW9.out.trans (HB3.out.mono HW9.out.size)).mono L0.out.size)⟩
        · have hx3 : ¬ (bcap - j = 0) := by omega
          go_wp2_with (at_builtin; first
            | (refine wpList_append_bks rfl (.tmp 24) (.tmp 27) rfl W9.heap.size _ [] rfl (row_empty43 W9) (some ⟨g, 0, none⟩) j bcap (ks.take j) rfl (HR9.out.take hj) (fun e => by cases e) (by simp; omega) (by simp) ?_; intro v1 w1 hown1 hgrow1; have HB1 := hid (A9.out.grown hgrow1 (by simp) (fun k e => by cases e; exact Nat.le_refl _)); have HO1 := hid hown1; have Q := (B0.out.below HW9.out).below HB1.out; have t0 := Q.c 0; have t1 := Q.c 1; have t2 := Q.c 2; have t3 := Q.c 3; clear hown1 hgrow1 Q)
            | (refine wpList_append_bks rfl (.tmp 29) (.tmp 31) rfl W9.heap.size v1 (ks.take j) rfl (owns_below HO1.out (alloc_below0 w1 _)) (some ⟨w1.heap.size, 0, none⟩) 1 1 [(vn, ⟨x, l, a, c⟩)] rfl (RowB.new w1 (vn, ⟨x, l, a, c⟩)) (fun e => by cases e) (by rw [List.length_take]; omega) (by have := HB1.out.size; rw [World.size_alloc]; omega) ?_; intro v2 w2 hown2 hgrow2; have HB2 := hid ((HB1.out.alloc HB1.out.size _).grown hgrow2 (by have := HB1.out.size; rw [World.size_alloc]; omega) (fun k e => (owns_cells HO1.out e).1)); have HO2 := hid hown2; have HR2 := hid ((HRB.out.below HW9.out).below HB2.out); clear hown2 hgrow2)
            | (refine wpList_append_bks rfl (.tmp 33) (.tmp 36) rfl W9.heap.size v2 (ks.take j ++ [(vn, ⟨x, l, a, c⟩)]) rfl HO2.out (some ⟨g, j * 4, none⟩) (ks.length - j) (bcap - j) (ks.drop j) rfl (by have := HR2.out.drop (p := j) hj; rwa [Nat.zero_add] at this) (fun e => by cases e) (by rw [List.length_append, List.length_take, List.length_singleton]; omega) HB2.out.size ?_; intro v3 w3 hown3 hgrow3; have HB3 := hid (HB2.out.grown hgrow3 HB2.out.size (fun k e => (owns_cells HO2.out e).1)); have HO3 := hid hown3; clear hown3 hgrow3))
          go_ret
          exact ⟨v3, j, rfl, hj, HGT.out, HEND.out, owns_base HO3.out (Nat.le_trans L0.out.size HW9.out.size), L0.out.trans ((HW9.out.trans (HB3.out.mono HW9.out.size)).mono L0.out.size)⟩
end Go.Proofs.YtgidgmgpgfonnaaGreat
