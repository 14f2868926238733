import Derived.Test.YtfnfbljijkjkjaaRLst
import Derived.Test.YtfnfbljijkjkjaaTRSize
import Derived.Test.YtfnfbljijkjkjaaTRClone
import Derived.Test.YtfnfbljijkjkjaaKUfN
/- What the document's With answers. -/
namespace Go.Proofs.Ytfnfbljijkjkjaa
open Go.RowKit Go.Deep

def bkCells (x : Bk) : List Value := [.string x.1, .string x.2.x.1, .int .i64 x.2.x.2, .slice x.2.a (lenF x.2.l) x.2.c]
def bkAll (l : List Bk) : List Value := l.flatMap bkCells
def bkBn (x : Bk) : Bn := (x.1, x.2.tn)
theorem bkAll_len : ∀ l : List Bk, (bkAll l).length = l.length * 4
  | [] => rfl
  | x :: r => by
    have := bkAll_len r
    simp only [bkAll, List.flatMap_cons, List.length_append, List.length_cons] at this ⊢
    simp only [bkCells, List.length_cons, List.length_nil]
    omega
theorem bkAll_snoc (l : List Bk) (x : Bk) : bkAll (l ++ [x]) = bkAll l ++ bkCells x := by simp [bkAll]
theorem bk_one (x : Bk) : ∀ u ∈ bkCells x, u.oneCell' = true := by
  intro u hu
  simp [bkCells] at hu
  rcases hu with rfl | rfl | rfl | rfl <;> rfl
theorem bkAll_at : ∀ (l : List Bk) (i : Nat) (h : i < l.length) (k : Nat), k < 4 → (bkAll l)[i * 4 + k]? = (bkCells l[i])[k]?
  | x :: r, 0, _, k, hk => by
    show (bkCells x ++ bkAll r)[0 * 4 + k]? = _
    rw [List.getElem?_append_left (by simp [bkCells]; omega)]
    simp
  | x :: r, i + 1, h, k, hk => by
    show (bkCells x ++ bkAll r)[(i + 1) * 4 + k]? = _
    rw [List.getElem?_append_right (by simp [bkCells]; omega)]
    have := bkAll_at r i (by simpa using h) k hk
    rw [show (i + 1) * 4 + k - (bkCells x).length = i * 4 + k by simp [bkCells]; omega]
    simpa using this
/-- Binds side by side in memory. -/
structure RowB (w : World) (a : Option Addr) (n : Nat) (ks : List Bk) : Prop where
  len : n = ks.length
  cells : ∀ j u, (bkAll ks)[j]? = some u → ∃ b off, a = some ⟨b, off, none⟩ ∧ w.cell? ⟨b, off + j, none⟩ = some u
theorem RowB.below {w w' : World} {a : Option Addr} {n : Nat} {ks : List Bk} (h : RowB w a n ks) (hb : Below w.heap.size w w') : RowB w' a n ks :=
  ⟨h.len, fun j u hu => by obtain ⟨b, off, ha, hc⟩ := h.cells j u hu; exact ⟨b, off, ha, bd_cell hb _ _ hc⟩⟩
theorem RowB.empty (w : World) (a : Option Addr) : RowB w a 0 [] := ⟨rfl, fun j u hu => by simp [bkAll] at hu⟩
theorem RowB.of {w : World} {B g n cap : Nat} {ks : List Bk} (h : w.ownsRow B 33 4 (.slice (some ⟨g, 0, none⟩) n cap) n (bkAll ks)) (hn : n = ks.length) : RowB w (some ⟨g, 0, none⟩) n ks := ⟨hn, fun j u hu => ⟨g, 0, rfl, owns_at h j u hu⟩⟩
theorem bkAll_take : ∀ (ks : List Bk) (p : Nat), (bkAll ks).take (p * 4) = bkAll (ks.take p)
  | [], p => by simp [bkAll]
  | x :: r, 0 => by simp [bkAll]
  | x :: r, p + 1 => by
    show (bkCells x ++ bkAll r).take ((p + 1) * 4) = bkCells x ++ bkAll (r.take p)
    rw [List.take_append, List.take_of_length_le (by simp [bkCells]; omega), ← bkAll_take r p]
    congr 2
    simp [bkCells]; omega
theorem bkAll_drop : ∀ (ks : List Bk) (p : Nat), (bkAll ks).drop (p * 4) = bkAll (ks.drop p)
  | [], p => by simp [bkAll]
  | x :: r, 0 => by simp [bkAll]
  | x :: r, p + 1 => by
    show (bkCells x ++ bkAll r).drop ((p + 1) * 4) = bkAll (r.drop p)
    rw [List.drop_append, List.drop_eq_nil_of_le (by simp [bkCells]; omega), List.nil_append, ← bkAll_drop r p]
    congr 1
    simp [bkCells]; omega
theorem RowB.take {w : World} {a : Option Addr} {n p : Nat} {ks : List Bk} (h : RowB w a n ks) (hp : p ≤ ks.length) : RowB w a p (ks.take p) := ⟨by rw [List.length_take]; omega, fun j u hu => h.cells j u (by rw [← bkAll_take, List.getElem?_take] at hu; split at hu; exact hu; cases hu)⟩
theorem RowB.drop {w : World} {b off n p : Nat} {ks : List Bk} (h : RowB w (some ⟨b, off, none⟩) n ks) (_hp : p ≤ ks.length) : RowB w (some ⟨b, off + p * 4, none⟩) (n - p) (ks.drop p) := ⟨by rw [List.length_drop, h.len], fun j u hu => by
  rw [← bkAll_drop, List.getElem?_drop] at hu
  obtain ⟨b', off', e, hc⟩ := h.cells _ u hu
  cases e
  exact ⟨b, off + p * 4, rfl, by rw [Nat.add_assoc]; exact hc⟩⟩
theorem RowB.new (w : World) (k : Bk) : RowB (w.alloc (.cells #[.string k.1, .string k.2.x.1, .int .i64 k.2.x.2, .slice k.2.a (lenF k.2.l) k.2.c] 33)) (some ⟨w.heap.size, 0, none⟩) 1 [k] := ⟨rfl, fun j u hu => ⟨w.heap.size, 0, rfl, by
  have e : bkAll [k] = bkCells k := by simp [bkAll]
  rw [e] at hu
  have hb : (w.alloc (.cells #[.string k.1, .string k.2.x.1, .int .i64 k.2.x.2, .slice k.2.a (lenF k.2.l) k.2.c] 33)).heap[w.heap.size]? = some (.cells #[.string k.1, .string k.2.x.1, .int .i64 k.2.x.2, .slice k.2.a (lenF k.2.l) k.2.c] 33 (0, 0)) := World.alloc_heap_new w _
  rw [Nat.zero_add]
  simp only [World.cell?, hb]
  simpa [bkCells] using hu⟩⟩
theorem bkAll_append (l m : List Bk) : bkAll (l ++ m) = bkAll l ++ bkAll m := by simp [bkAll]
theorem bkAll_one (l : List Bk) : ∀ u ∈ bkAll l, u.oneCell' = true := fun u hu => by
  obtain ⟨k, _, hk⟩ := List.mem_flatMap.1 hu
  exact bk_one k u hk
theorem row_empty43 (W : World) : (W.alloc (.cells #[] 33)).ownsRow W.heap.size 33 4 (.slice (some ⟨W.heap.size, 0, none⟩) 0 0) 0 (bkAll []) :=
  ⟨rfl, Or.inr ⟨W.heap.size, 0, #[], rfl, Nat.le_refl _, World.alloc_heap_new W _, Nat.le_refl _, by simp, rfl, rfl⟩⟩
set_option maxRecDepth 100000 in
/-- append of what another slice holds, be it nil, be it empty. -/
theorem wpList_append_bks {ops : Array Oper} {rest : List Oper} {o : Oper} {a : Act} {Q : Exit → Act → World → Prop} {W : World} (hgd : o.guard = none) (s x : Operand)
    (ho : o.op = .call { callee := .builtin .append, args := #[s, x], argTypes := #[43, 43] }) (base : Nat) (v : Value) (ks : List Bk) (hs : a.eval s = v) (hown : W.ownsRow base 33 4 v ks.length (bkAll ks))
    (sa : Option Addr) (m c : Nat) (ms : List Bk) (hx : a.eval x = .slice sa m c) (hm : RowB W sa m ms) (hnil : sa = none → c = 0) (hbig : ks.length + m ≤ 2097152) (hbase : base ≤ W.heap.size)
    (h : ∀ v' w', w'.ownsRow base 33 4 v' (ks ++ ms).length (bkAll (ks ++ ms)) → W.grownBy w' v.ownBlock → wpList Try.prog ops Q rest (a.put o.dst v') w') : wpList Try.prog ops Q (o :: rest) a W := by
  obtain ⟨i0, hi, hz0, hz1, hz2⟩ := info_parts Try.info33
  have hmax : maxLen = 9223372036854775807 := rfl
  rcases sa with _ | ⟨b, off, sp⟩
  · obtain rfl : ms = [] := by
      cases ms with
      | nil => rfl
      | cons k r =>
        obtain ⟨_, _, e, _⟩ := hm.cells 0 (.string k.1) rfl
        cases e
    obtain rfl := hm.len
    obtain rfl := hnil rfl
    refine wpList_append_own_none hgd s x 43 ho base 33 i0 4 Try.underlying43 hi v ks.length (bkAll ks) hs hown hx (h v W (by simpa using hown) ?_)
    exact ⟨rfl, rfl, rfl, Nat.le_refl _, fun _ _ _ => rfl⟩
  · have hlm := hm.len
    refine wpList_append_own _ hgd s x 43 ho base 33 i0 _ 4 64 Try.underlying43 hi hz0 hz1 hz2 rfl (by decide) v ks.length (bkAll ks) hs hown ⟨b, off, sp⟩ m c (bkAll ms) hx (by rw [bkAll_len, hlm]) (fun j u hu => ?_) (bkAll_one ms) (by omega) (by omega) hbase ?_
    · obtain ⟨b', off', e, hc⟩ := hm.cells j u hu
      cases e
      rw [← hc]
      congr 1
      unfold Addr.add
      split <;> simp_all
    · intro v' w' h1 h2 _
      refine h v' w' ?_ h2
      rw [bkAll_append, List.length_append, ← hlm]
      exact h1
/-- What With leaves. -/
def WithR (ks : List Bk) (k : Bk) (w : World) (e : Ending) (w' : World) : Prop := ∃ (v : Value) (j : Nat), e = .returned v ∧ j ≤ ks.length ∧ (∀ z ∈ ks.drop j, leS z.1 k.1 = false) ∧ (∀ z, 0 < j → ks[j - 1]? = some z → leS z.1 k.1 = true) ∧ w'.ownsRow w.heap.size 33 4 v (ks.take j ++ [k] ++ ks.drop j).length (bkAll (ks.take j ++ [k] ++ ks.drop j)) ∧ Below w.heap.size w w'
set_option maxRecDepth 100000 in
set_option maxHeartbeats 8000000 in
theorem with_any (B : Nat) (bv : Value) (ks : List Bk) (vn : ByteArray) (x : ByteArray × Int) (l : Fo) (a : Option Addr) (c : Nat) (w : World) (hR : w.ownsRow B 33 4 bv ks.length (bkAll ks)) (hn : ks.length ≤ 1048576) :
    Calls Try.prog 37 #[bv, .agg #[.string vn, .string x.1, .int .i64 x.2, .slice a (lenF l) c]] w (WithR ks (vn, ⟨x, l, a, c⟩) w) := by
  have B0 : Hid (Box (w.alloc (.cells #[.string vn, .string x.1, .int .i64 x.2, .slice a (lenF l) c] 33)) w.heap.size 33 #[.string vn, .string x.1, .int .i64 x.2, .slice a (lenF l) c]) := hid (Box.new w 33 _)
  have L0 := hid (alloc_below0 w (.cells #[.string vn, .string x.1, .int .i64 x.2, .slice a (lenF l) c] 33))
  have hmax : maxLen = 9223372036854775807 := rfl
  rcases hR.2 with ⟨hv, hk0⟩ | ⟨g, bcap, cur, hv, _, _, hnc, hcm, _⟩
  · obtain rfl : ks = [] := List.eq_nil_of_length_eq_zero hk0
    subst hv
    clear hR hk0
    go_enter Try.func37, Try.ntmps37
    go_wp2_with fail
    generalize w.alloc (.cells #[.string vn, .string x.1, .int .i64 x.2, .slice a (lenF l) c] 33) = V at B0 L0 ⊢
    go_loopw [5] (fun jv wr => jv = .int .i64 0 ∧ Below V.heap.size V wr) (fun _ _ => 0)
    case atStart => exact ⟨rfl, Below.refl _ _⟩
    case round =>
      obtain ⟨rfl, hlow⟩ := hrel
      have HW := hid hlow
      have hne := later_some wr
      clear hlow
      go_wp2_with fail
      refine wp_region_later (by kernel_rfl) (by kernel_rfl) ?_
      repeat (go_big_quiet_step (fail))
      refine wpQuiet_nil ?_
      intro _ hw'
      obtain ⟨b3, hw''⟩ := hw'
      subst hw''
      have HW9 := hid (HW.out.trans (b3.below.mono HW.out.size))
      obtain ⟨W9, hW9⟩ : ∃ W9, b3.now = W9 := ⟨_, rfl⟩
      rw [hW9] at HW9 ⊢
      clear hW9 hne
      have A9 := hid (alloc_below0 W9 (.cells #[] 33))
      go_wp2_with (at_builtin; first
        | (refine wpList_append_bks rfl (.tmp 24) (.tmp 27) rfl W9.heap.size _ [] rfl (row_empty43 W9) none 0 0 [] rfl (RowB.empty _ _) (fun _ => rfl) (by simp) (by simp) ?_; intro v1 w1 hown1 hgrow1; have HB1 := hid (A9.out.grown hgrow1 (by simp) (fun k e => by cases e; exact Nat.le_refl _)); have HO1 := hid hown1; have Q := (B0.out.below HW9.out).below HB1.out; have t0 := Q.c 0; have t1 := Q.c 1; have t2 := Q.c 2; have t3 := Q.c 3; clear hown1 hgrow1 Q)
        | (refine wpList_append_bks rfl (.tmp 29) (.tmp 31) rfl W9.heap.size v1 [] rfl (owns_below HO1.out (alloc_below0 w1 _)) (some ⟨w1.heap.size, 0, none⟩) 1 1 [(vn, ⟨x, l, a, c⟩)] rfl (RowB.new w1 (vn, ⟨x, l, a, c⟩)) (fun e => by cases e) (by simp) (by have := HB1.out.size; rw [World.size_alloc]; omega) ?_; intro v2 w2 hown2 hgrow2; have HB2 := hid ((HB1.out.alloc HB1.out.size _).grown hgrow2 (by have := HB1.out.size; rw [World.size_alloc]; omega) (fun k e => (owns_cells HO1.out e).1)); have HO2 := hid hown2; clear hown2 hgrow2)
        | (refine wpList_append_bks rfl (.tmp 33) (.tmp 36) rfl W9.heap.size v2 [(vn, ⟨x, l, a, c⟩)] rfl HO2.out none 0 0 [] rfl (RowB.empty _ _) (fun _ => rfl) (by simp) HB2.out.size ?_; intro v3 w3 hown3 hgrow3; have HB3 := hid (HB2.out.grown hgrow3 HB2.out.size (fun k e => (owns_cells HO2.out e).1)); have HO3 := hid hown3; clear hown3 hgrow3))
      go_ret
      refine ⟨v3, 0, rfl, Nat.le_refl _, by simp, fun z h => absurd h (by omega), ?_, ?_⟩
      · exact owns_base HO3.out (Nat.le_trans L0.out.size HW9.out.size)
      · exact L0.out.trans ((HW9.out.trans (HB3.out.mono HW9.out.size)).mono L0.out.size)
  · subst hv
    have hRB := RowB.of hR rfl
    have HRB := hid (hRB.below L0.out)
    clear hR hRB
    go_enter Try.func37, Try.ntmps37
    go_wp2_with fail
    generalize w.alloc (.cells #[.string vn, .string x.1, .int .i64 x.2, .slice a (lenF l) c] 33) = V at B0 L0 HRB ⊢
    go_loopw [5] (fun jv wr => ∃ j : Nat, j ≤ ks.length ∧ jv = .int .i64 j ∧ (∀ z ∈ ks.drop j, leS z.1 vn = false) ∧ Below V.heap.size V wr) (fun jv _ => (intOf jv).toNat)
    case atStart => exact ⟨ks.length, Nat.le_refl _, rfl, by simp, Below.refl _ _⟩
    case round =>
      obtain ⟨j, hj, rfl, hgt, hlow⟩ := hrel
      have HW := hid hlow; have HGT := hid hgt
      have hne := later_some wr
      clear hlow hgt
      have s0 := later_cell ((B0.out.below HW.out).c 0)
      obtain ⟨gv, hgv⟩ : ∃ gv, (decide (0 < j) && match ks[j - 1]? with | some z => !leS z.1 vn | none => false) = gv := ⟨_, rfl⟩
      have HGX := hid hgv
      go_upto_region 2 with fail
      go_cut [21] (fun cv wx => cv = .bool gv ∧ Below wr.heap.size wr wx)
      case first =>
        by_cases hj0 : j = 0
        · subst hj0
          have HGV : Hid (gv = false) := hid (by rw [← hgv]; simp)
          clear hgv
          (refine wp_region_later (by kernel_rfl) (by kernel_rfl) ?_
           repeat (go_big_quiet_step (fail))
           refine wpQuiet_nil ?_
           intro _ hw'
           obtain ⟨b2, hw''⟩ := hw'
           subst hw''
           go_wp2
           go_meet
           exact ⟨congrArg Value.bool (by rw [HGV.out]), b2.below⟩)
        · obtain ⟨jp, rfl⟩ : ∃ jp, j = jp + 1 := ⟨j - 1, by omega⟩
          have hjl : jp < ks.length := by omega
          have hc0 := (HRB.out.below HW.out).cells (jp * 4) (.string ks[jp].1) (by rw [show jp * 4 = jp * 4 + 0 from rfl, bkAll_at ks jp hjl 0 (by decide)]; rfl)
          obtain ⟨b', off', eb, hc0⟩ := hc0
          cases eb
          rw [Nat.zero_add] at hc0
          have r0 := later_cell hc0
          obtain ⟨zn, hzn⟩ : ∃ zn, ks[jp].1 = zn := ⟨_, rfl⟩
          rw [hzn] at r0
          have hgv2 : (!leS zn vn) = gv := by
            rw [← hgv, ← hzn]
            simp [hjl]
          have hjp : (0 : Int) < ((jp + 1 : Nat) : Int) := by omega
          have hjq : (((jp + 1 : Nat) : Int) - 1) = (jp : Int) := by omega
          have hjn : (jp : Int) < (ks.length : Int) := by omega
          clear hc0 hgv hzn
          cases hl1 : Op.bytesLess zn.toList vn.toList
          · by_cases hl2 : zn.toList = vn.toList
            · have HGV : Hid (gv = false) := hid (by rw [← hgv2]; simp [leS, hl2])
              have hlb : (zn.toList == vn.toList) = true := by simp [hl2]
              clear hgv2
              (refine wp_region_later (by kernel_rfl) (by kernel_rfl) ?_
               repeat (go_big_quiet_step (fail))
               refine wpQuiet_nil ?_
               intro _ hw'
               obtain ⟨b2, hw''⟩ := hw'
               subst hw''
               go_wp2
               go_meet
               exact ⟨congrArg Value.bool (by rw [HGV.out]), b2.below⟩)
            · have HGV : Hid (gv = true) := hid (by rw [← hgv2]; simp [leS, hl1, hl2])
              have hlb : (zn.toList == vn.toList) = false := by simp [hl2]
              clear hgv2
              (refine wp_region_later (by kernel_rfl) (by kernel_rfl) ?_
               repeat (go_big_quiet_step (fail))
               refine wpQuiet_nil ?_
               intro _ hw'
               obtain ⟨b2, hw''⟩ := hw'
               subst hw''
               go_wp2
               go_meet
               exact ⟨congrArg Value.bool (by rw [HGV.out]), b2.below⟩)
          · have HGV : Hid (gv = false) := hid (by rw [← hgv2]; simp [leS, hl1])
            clear hgv2
            (refine wp_region_later (by kernel_rfl) (by kernel_rfl) ?_
             repeat (go_big_quiet_step (fail))
             refine wpQuiet_nil ?_
             intro _ hw'
             obtain ⟨b2, hw''⟩ := hw'
             subst hw''
             go_wp2
             go_meet
             exact ⟨congrArg Value.bool (by rw [HGV.out]), b2.below⟩)
      case rest =>
      obtain ⟨rfl, hb5⟩ := hcut
      rename World => W9
      have HW9 := hid (HW.out.trans (hb5.mono HW.out.size))
      clear hb5 hgv s0 hne
      cases gv with
      | true =>
        have hg := HGX.out
        simp only [Bool.and_eq_true, decide_eq_true_eq] at hg
        obtain ⟨hj0, hg2⟩ := hg
        obtain ⟨jp, rfl⟩ : ∃ jp, j = jp + 1 := ⟨j - 1, by omega⟩
        have hjl : jp < ks.length := by omega
        have hnew : ∀ z ∈ ks.drop jp, leS z.1 vn = false := fun z hz => by
          rw [List.drop_eq_getElem_cons hjl] at hz
          rcases List.mem_cons.1 hz with rfl | hz
          · simpa [hjl] using hg2
          · exact HGT.out z hz
        have HNEW := hid hnew
        clear hnew hg2 hjl hj0 HGX
        go_wp2
        go_roundw
        case rel => exact ⟨jp, by omega, by go_num, HNEW.out, HW9.out⟩
        case measure => simp [intOf]
      | false =>
        have HEND : Hid (∀ z, 0 < j → ks[j - 1]? = some z → leS z.1 vn = true) := hid fun z h1 h2 => by
          have hg := HGX.out
          rw [h2] at hg
          simpa [h1] using hg
        clear HGX
        have A9 := hid (alloc_below0 W9 (.cells #[] 33))
        have HR9 := hid ((HRB.out.below HW9.out).below A9.out)
        have hq0 : (0 : Int) ≤ (j : Int) := by omega
        have hq1 : (j : Int) ≤ (ks.length : Int) := by omega
        have hq2 : (j : Int) ≤ (bcap : Int) := by omega
        by_cases hcap : bcap = j
        · have hdr : ks.drop j = [] := List.drop_eq_nil_of_le (by omega)
          have hx1 : ks.length - j = 0 := by omega
          have hx2 : bcap - j = 0 := by omega
          have HDR := hid hdr
          clear hcap hdr
          go_wp2_with (at_builtin; first
            | (refine wpList_append_bks rfl (.tmp 24) (.tmp 27) rfl W9.heap.size _ [] rfl (row_empty43 W9) (some ⟨g, 0, none⟩) j bcap (ks.take j) rfl (HR9.out.take hj) (fun e => by cases e) (by simp; omega) (by simp) ?_; intro v1 w1 hown1 hgrow1; have HB1 := hid (A9.out.grown hgrow1 (by simp) (fun k e => by cases e; exact Nat.le_refl _)); have HO1 := hid hown1; have Q := (B0.out.below HW9.out).below HB1.out; have t0 := Q.c 0; have t1 := Q.c 1; have t2 := Q.c 2; have t3 := Q.c 3; clear hown1 hgrow1 Q)
            | (refine wpList_append_bks rfl (.tmp 29) (.tmp 31) rfl W9.heap.size v1 (ks.take j) rfl (owns_below HO1.out (alloc_below0 w1 _)) (some ⟨w1.heap.size, 0, none⟩) 1 1 [(vn, ⟨x, l, a, c⟩)] rfl (RowB.new w1 (vn, ⟨x, l, a, c⟩)) (fun e => by cases e) (by rw [List.length_take]; omega) (by have := HB1.out.size; rw [World.size_alloc]; omega) ?_; intro v2 w2 hown2 hgrow2; have HB2 := hid ((HB1.out.alloc HB1.out.size _).grown hgrow2 (by have := HB1.out.size; rw [World.size_alloc]; omega) (fun k e => (owns_cells HO1.out e).1)); have HO2 := hid hown2; have HR2 := hid ((HRB.out.below HW9.out).below HB2.out); clear hown2 hgrow2)
            | (refine wpList_append_bks rfl (.tmp 33) (.tmp 36) rfl W9.heap.size v2 (ks.take j ++ [(vn, ⟨x, l, a, c⟩)]) rfl HO2.out (some ⟨g, 0, none⟩) 0 0 (ks.drop j) rfl (by rw [HDR.out]; exact RowB.empty _ _) (fun e => by cases e) (by rw [List.length_append, List.length_take, List.length_singleton]; omega) HB2.out.size ?_; intro v3 w3 hown3 hgrow3; have HB3 := hid (HB2.out.grown hgrow3 HB2.out.size (fun k e => (owns_cells HO2.out e).1)); have HO3 := hid hown3; clear hown3 hgrow3))
          go_ret
          exact ⟨v3, j, rfl, hj, HGT.out, HEND.out, owns_base HO3.out (Nat.le_trans L0.out.size HW9.out.size), L0.out.trans ((HW9.out.trans (HB3.out.mono HW9.out.size)).mono L0.out.size)⟩
        · have hx3 : ¬ (bcap - j = 0) := by omega
          go_wp2_with (at_builtin; first
            | (refine wpList_append_bks rfl (.tmp 24) (.tmp 27) rfl W9.heap.size _ [] rfl (row_empty43 W9) (some ⟨g, 0, none⟩) j bcap (ks.take j) rfl (HR9.out.take hj) (fun e => by cases e) (by simp; omega) (by simp) ?_; intro v1 w1 hown1 hgrow1; have HB1 := hid (A9.out.grown hgrow1 (by simp) (fun k e => by cases e; exact Nat.le_refl _)); have HO1 := hid hown1; have Q := (B0.out.below HW9.out).below HB1.out; have t0 := Q.c 0; have t1 := Q.c 1; have t2 := Q.c 2; have t3 := Q.c 3; clear hown1 hgrow1 Q)
            | (refine wpList_append_bks rfl (.tmp 29) (.tmp 31) rfl W9.heap.size v1 (ks.take j) rfl (owns_below HO1.out (alloc_below0 w1 _)) (some ⟨w1.heap.size, 0, none⟩) 1 1 [(vn, ⟨x, l, a, c⟩)] rfl (RowB.new w1 (vn, ⟨x, l, a, c⟩)) (fun e => by cases e) (by rw [List.length_take]; omega) (by have := HB1.out.size; rw [World.size_alloc]; omega) ?_; intro v2 w2 hown2 hgrow2; have HB2 := hid ((HB1.out.alloc HB1.out.size _).grown hgrow2 (by have := HB1.out.size; rw [World.size_alloc]; omega) (fun k e => (owns_cells HO1.out e).1)); have HO2 := hid hown2; have HR2 := hid ((HRB.out.below HW9.out).below HB2.out); clear hown2 hgrow2)
            | (refine wpList_append_bks rfl (.tmp 33) (.tmp 36) rfl W9.heap.size v2 (ks.take j ++ [(vn, ⟨x, l, a, c⟩)]) rfl HO2.out (some ⟨g, j * 4, none⟩) (ks.length - j) (bcap - j) (ks.drop j) rfl (by have := HR2.out.drop (p := j) hj; rwa [Nat.zero_add] at this) (fun e => by cases e) (by rw [List.length_append, List.length_take, List.length_singleton]; omega) HB2.out.size ?_; intro v3 w3 hown3 hgrow3; have HB3 := hid (HB2.out.grown hgrow3 HB2.out.size (fun k e => (owns_cells HO2.out e).1)); have HO3 := hid hown3; clear hown3 hgrow3))
          go_ret
          exact ⟨v3, j, rfl, hj, HGT.out, HEND.out, owns_base HO3.out (Nat.le_trans L0.out.size HW9.out.size), L0.out.trans ((HW9.out.trans (HB3.out.mono HW9.out.size)).mono L0.out.size)⟩
end Go.Proofs.Ytfnfbljijkjkjaa
/- The document's Get. -/
namespace Go.Proofs.Ytfnfbljijkjkjaa
open Go.RowKit Go.Deep Go.Shelf

theorem name_eq {a b : ByteArray} (h : (a.toList == b.toList) = true) : a = b := by
  have h1 : a.toList = b.toList := eq_of_beq h
  rw [ByteArray.toList_eq, ByteArray.toList_eq] at h1
  exact Go.WideShapes.bytes_inj h1
/-- The first bind of a name. -/
def getB (bs : List Bn) (s : ByteArray) : Option Tn := (bs.find? fun b => decide (b.1 = s)).map (·.2)
/-- What Get tells: a term in memory, and whether it stands for the name. -/
def GetEnd (bs : List Bn) (s : ByteArray) (w : World) (e : Ending) (w' : World) : Prop := Below w.heap.size w w' ∧
  ((getB bs s = none ∧ e = .returned (.tuple #[.agg #[.string s, .int .i64 0, .slice none 0 0], .bool false])) ∨ ∃ t a c, getB bs s = some t ∧ TmAt w t.1 a c t.2 ∧ e = .returned (.tuple #[.agg #[.string t.1.1, .int .i64 t.1.2, .slice a (lenF t.2) c], .bool true]))
set_option maxRecDepth 100000 in
set_option maxHeartbeats 2000000 in
theorem rget_any (p : Option Addr) (bcap : Nat) (bs : List Bn) (s : ByteArray) (w : World) (hB : BindsAt w p bs.length bs) (hn : bs.length ≤ 1048576) :
    Calls Try.prog 77 #[.slice p bs.length bcap, .string s] w (GetEnd bs s w) := by
  have HB := hid hB
  have b0 := alloc_below0 w (.cells #[.string ⟨#[]⟩, .int .i64 0, .slice none 0 0] 26)
  have X0 : XBox (w.alloc (.cells #[.string ⟨#[]⟩, .int .i64 0, .slice none 0 0] 26)) w.heap.size (⟨#[]⟩, 0) (.slice none 0 0) := World.alloc_heap_new w _
  have HL := hid b0; have HX := hid X0
  clear hB b0 X0
  go_enter Try.func77, Try.ntmps77
  go_wp2_with fail
  generalize w.alloc (.cells #[.string ⟨#[]⟩, .int .i64 0, .slice none 0 0] 26) = V at HL HX ⊢
  go_loopw [6] (fun iv wr => ∃ i : Nat, i ≤ bs.length ∧ iv = .int .i64 i ∧ wr = V ∧ ∀ b ∈ bs.take i, b.1 ≠ s) (fun iv _ => bs.length - (intOf iv).toNat)
  case atStart => exact ⟨0, Nat.zero_le _, rfl, rfl, by simp⟩
  case round =>
    obtain ⟨i, hi, rfl, rfl, hno⟩ := hrel
    by_cases hlt : i < bs.length
    · obtain ⟨b1, o1, a1, c1, rfl, hbw⟩ := HB.out.cells i hlt
      have hbd := hbw.below HL.out
      obtain ⟨⟨vn, ⟨x, l⟩⟩, hyy⟩ : ∃ y, bs[i] = y := ⟨_, rfl⟩
      rw [hyy] at hbd hbw
      have p0 := hbd.var; have p1 := hbd.name; have p2 := hbd.sym; have p3 := hbd.list
      dsimp only at p0 p1 p2 p3
      have r0 := HX.out.c0; have r1 := HX.out.c1; have r2 := HX.out.c2
      have g0 := HX.out.f (k := 0); have g1 := HX.out.f (k := 1); have g2 := HX.out.f (k := 2)
      cases ht : (vn.toList == s.toList) with
      | true =>
        obtain rfl := name_eq ht
        have hf : bs.find? (fun b => decide (b.1 = vn)) = some (vn, (x, l)) := List.find?_eq_some_iff_append.2 ⟨by simp, bs.take i, bs.drop (i + 1), by rw [← hyy]; rw [← List.drop_eq_getElem_cons hlt, List.take_append_drop], fun b hb => by simpa using hno b hb⟩
        have hg : getB bs vn = some (x, l) := by
          unfold getB
          rw [hf]
          rfl
        have HG := hid hg
        have HT := hid hbw.tm
        clear hbd hbw HB hg hf
        go_wp2_with fail
        refine bodyPost_ret (results_ct rfl rfl (load26 (HX.out.all (x := x) _))) rfl ?_
        exact ⟨sets_below HL.out (by omega) _ _ _, .inr ⟨(x, l), a1, c1, HG.out, HT.out, rfl⟩⟩
      | false =>
        have hs : vn ≠ s := fun e => by rw [e] at ht; simp at ht
        clear hbd hbw HB
        go_wp2_with fail
        refine ⟨⟨i + 1, by omega, rfl, trivial, fun b hb => ?_⟩, by simp [intOf]; omega⟩
        rw [List.take_succ_eq_append_getElem hlt] at hb
        rcases List.mem_append.1 hb with hb | hb
        · exact hno b hb
        · rw [List.mem_singleton.1 hb, hyy]
          exact hs
    · have hg : getB bs s = none := by
        unfold getB
        rw [List.take_of_length_le (by omega)] at hno
        rw [List.find?_eq_none.2 (fun b hb => by simpa using hno b hb)]
        rfl
      have r0 := HX.out.c0; have r1 := HX.out.c1; have r2 := HX.out.c2
      have g0 := HX.out.f (k := 0); have g1 := HX.out.f (k := 1); have g2 := HX.out.f (k := 2)
      go_wp2_with fail
      refine bodyPost_ret (results_ct rfl rfl (load26 (HX.out.all (x := (s, 0)) _))) rfl ?_
      exact ⟨sets_below HL.out (by omega) _ _ _, .inl ⟨hg, rfl⟩⟩
end Go.Proofs.Ytfnfbljijkjkjaa
/- The document's grown. -/
namespace Go.Proofs.Ytfnfbljijkjkjaa
open Go.RowKit Go.Deep Go.Shelf

/-- How many nodes stand for a name. -/
def szB (bs : List Bn) (s : ByteArray) : Nat := match getB bs s with | some t => nodesF t.2 + 1 | none => 1
def growF (bs : List Bn) : Fo → Int → Int
  | .nil, r => r
  | .node _ _ x l s, r => if r < 0 then r else growF bs s (if noName x.1 = true then growF bs l (r - 1) else r - szB bs x.1)
def growN (bs : List Bn) (x : ByteArray × Int) (l : Fo) (r : Int) : Int := if noName x.1 = true then growF bs l (r - 1) else r - szB bs x.1
theorem growF_neg (bs : List Bn) (F : Fo) (r : Int) (h : r < 0) : growF bs F r = r := by
  cases F with
  | nil => rfl
  | node => unfold growF; rw [if_pos h]
theorem growF_bd (bs : List Bn) (hs : ∀ s, szB bs s ≤ 1048577) : ∀ (F : Fo) (r : Int), -1048578 ≤ r → -1048578 ≤ growF bs F r ∧ growF bs F r ≤ r
  | .nil, r, h => ⟨h, Int.le_refl _⟩
  | .node _ _ x l s, r, h => by
    unfold growF
    split
    · omega
    · have h1 : -1048578 ≤ (if noName x.1 = true then growF bs l (r - 1) else r - szB bs x.1) ∧ (if noName x.1 = true then growF bs l (r - 1) else r - szB bs x.1) ≤ r := by
        split
        · have := growF_bd bs hs l (r - 1) (by omega)
          omega
        · have := hs x.1
          omega
      have h2 := growF_bd bs hs s _ h1.1
      omega
def GrowOk (bs : List Bn) (k : Nat) : Prop := ∀ (x : ByteArray × Int) (l : Fo) (a : Option Addr) (c : Nat) (p : Option Addr) (bcap : Nat) (room : Int) (w : World), nodesF l ≤ k → TmAt w x a c l → BindsAt w p bs.length bs → 0 ≤ room → room ≤ 400 →
  Calls Try.prog 76 #[.slice p bs.length bcap, .agg #[.string x.1, .int .i64 x.2, .slice a (lenF l) c], .int .i64 room] w fun e w' => e = .returned (.int .i64 (growN bs x l room)) ∧ Below w.heap.size w w'
set_option maxRecDepth 100000 in
set_option maxHeartbeats 2000000 in
theorem grow_all (bs : List Bn) (hn : bs.length ≤ 1048576) (hnd : ∀ b ∈ bs, nodesF b.2.2 ≤ 1048576) : ∀ k, GrowOk bs k := by
  have hsz : ∀ s, szB bs s ≤ 1048577 := fun s => by
    unfold szB
    cases h : getB bs s with
    | none => simp
    | some t =>
      unfold getB at h
      cases hf : bs.find? (fun b => decide (b.1 = s)) with
      | none => rw [hf] at h; cases h
      | some b =>
        rw [hf] at h
        have h1 : b.2 = t := Option.some.inj h
        have h2 := hnd b (List.mem_of_find?_eq_some hf)
        rw [h1] at h2
        simp only
        omega
  intro k
  induction k using Nat.strongRecOn with
  | _ k ih =>
    intro x l a c p bcap room w hk hT hB hr0 hr4
    have HT := hid hT
    have HB := hid hB
    have IH : Hid (∀ j, j < k → GrowOk bs j) := ih
    have O0 := hid (One.new w x a (lenF l) c)
    have b0 := alloc_below0 w (.cells #[.string x.1, .int .i64 x.2, .slice a (lenF l) c] 26)
    have hn0 := len_nodes l
    have hln : lenF l ≤ 2932031007402 := by have := hT.sizes.few; omega
    have t0 := O0.out.t.c0; have t1 := O0.out.t.c1; have t2 := O0.out.t.c2
    have HG := hid (rget_any p bcap bs x.1 (w.alloc (.cells #[.string x.1, .int .i64 x.2, .slice a (lenF l) c] 26)) (hB.below b0) hn)
    clear hT hB ih b0
    cases hnm : noName x.1 with
    | true =>
      have hnm' : x.1.toList.isEmpty = true := hnm
      have HN : Hid (growN bs x l room = growF bs l (room - 1)) := hid (by unfold growN; rw [if_pos hnm])
      clear HG
      go_enter Try.func76, Try.ntmps76
      go_wp2_with fail
      generalize w.alloc (.cells #[.string x.1, .int .i64 x.2, .slice a (lenF l) c] 26) = V at O0 t0 t1 t2 ⊢
      go_loopw [2, 9] (fun rv iv wr => ∃ (j : Nat) (r : Int), j ≤ lenF l ∧ rv = .int .i64 r ∧ iv = .int .i64 j ∧ -1048578 ≤ r ∧ r ≤ 400 ∧ One w x a (lenF l) c wr ∧ growF bs (dropF j l) r = growF bs l (room - 1)) (fun _ iv _ => lenF l - (intOf iv).toNat)
      case atStart => exact ⟨0, room - 1, Nat.zero_le _, rfl, rfl, by omega, by omega, O0.out, by rw [drop_zero]⟩
      case round =>
        obtain ⟨j, r, hj, rfl, rfl, hr1, hr2, hO, hm⟩ := hrel
        have HO := hid hO
        have t2 := hO.t.c2
        by_cases hlt : j < lenF l
        · obtain ⟨b1, o1, rfl, hk1⟩ := HT.out.args.get (by omega)
          obtain ⟨z, a1, c1, l1, kd⟩ := hk1.kid (k := j) hlt
          have kd' := kd.below hO.low
          obtain ⟨B1, O1', s1⟩ := kd.split
          rw [s1] at hm
          have p0 := kd'.name; have p1 := kd'.sym; have p2 := kd'.list
          by_cases hr : r < 0
          · rw [growF_neg bs _ r hr] at hm
            clear kd kd' s1 hk1 hO
            go_wp2_with fail
            go_ret
            exact ⟨by rw [HN.out, ← hm] <;> rfl, HO.out.low⟩
          · have HC := hid (IH.out (nodesF l1) (by have := kd.less; omega) z l1 a1 c1 p bcap r wr (Nat.le_refl _) kd'.at_ (HB.out.below hO.low) (by omega) hr2)
            have hstep : growF bs (dropF (j + 1) l) (growN bs z l1 r) = growF bs l (room - 1) := by
              rw [← hm]
              conv => rhs; unfold growF
              rw [if_neg hr]
              rfl
            have HS := hid hstep
            have hbd : -1048578 ≤ growN bs z l1 r ∧ growN bs z l1 r ≤ 400 := by
              unfold growN
              split
              · exact ⟨(growF_bd bs hsz l1 (r - 1) (by omega)).1, Int.le_trans (growF_bd bs hsz l1 (r - 1) (by omega)).2 (by omega)⟩
              · have := hsz z.1
                omega
            clear kd kd' s1 hk1 hO hstep
            go_wp2_with fail
            refine HC.out.mono ?_
            rintro e w3 ⟨rfl, hb3⟩
            have HO4 := hid (HO.out.below hb3)
            clear hb3 p0 p1 p2 t2
            go_wp2_with fail
            go_roundw
            case rel => exact ⟨j + 1, growN bs z l1 r, by omega, rfl, by go_num, hbd.1, hbd.2, HO4.out, HS.out⟩
            case measure => simp [intOf]; omega
        · have e1 : j = lenF l := by omega
          rw [e1, drop_end] at hm
          have hm' : r = growF bs l (room - 1) := hm
          go_wp2_with fail
          go_ret
          exact ⟨by rw [HN.out, hm'] <;> rfl, HO.out.low⟩
    | false =>
      have hnm' : x.1.toList.isEmpty = false := hnm
      have HN : Hid (growN bs x l room = room - szB bs x.1) := hid (by unfold growN; rw [if_neg (by rw [hnm]; decide)])
      go_enter Try.func76, Try.ntmps76
      go_wp2_with fail
      refine HG.out.mono ?_
      rintro e w1 ⟨hb1, hres⟩
      obtain ⟨t, a', c', bo, rfl, hT1, hs1⟩ : ∃ (t : Tn) (a' : Option Addr) (c' : Nat) (bo : Bool), e = .returned (.tuple #[.agg #[.string t.1.1, .int .i64 t.1.2, .slice a' (lenF t.2) c'], .bool bo]) ∧ TmAt w1 t.1 a' c' t.2 ∧ nodesF t.2 + 1 = szB bs x.1 := by
        rcases hres with ⟨h1, rfl⟩ | ⟨t, a', c', h1, h2, rfl⟩
        · exact ⟨((x.1, 0), .nil), none, 0, false, rfl, ⟨⟨HT.out.sizes.name, Nat.le_refl _, by simp, by simp [lenF]⟩, .inl rfl⟩, by unfold szB; rw [h1]; rfl⟩
        · exact ⟨t, a', c', true, rfl, h2.below hb1, by unfold szB; rw [h1]⟩
      have hsx := hsz x.1
      have bx := alloc_below0 w1 (.cells #[.string t.1.1, .int .i64 t.1.2, .slice a' (lenF t.2) c'] 26)
      have HC := hid (rsize_all (nodesF t.2) t.1 t.2 a' c' (w1.alloc (.cells #[.string t.1.1, .int .i64 t.1.2, .slice a' (lenF t.2) c'] 26)) (Nat.le_refl _) (hT1.below bx) (by omega))
      have hl1 := (O0.out.below hb1).low
      have HL := hid (hl1.trans (bx.mono hl1.size))
      clear hres hT1 bx hb1 hl1 HG t0 t1 t2
      go_wp2_with fail
      refine HC.out.mono ?_
      rintro e w3 ⟨rfl, hb3⟩
      have HL3 := hid (HL.out.trans (hb3.mono HL.out.size))
      clear hb3 HC
      rw [hs1]
      have hsx0 : (0 : Int) ≤ (szB bs x.1 : Int) := Int.natCast_nonneg _
      go_wp2_with fail
      go_ret
      exact ⟨by rw [HN.out] <;> rfl, HL3.out⟩
theorem grown_any (bs : List Bn) (hn : bs.length ≤ 1048576) (hnd : ∀ b ∈ bs, nodesF b.2.2 ≤ 1048576) (x : ByteArray × Int) (l : Fo) (a : Option Addr) (c : Nat) (p : Option Addr) (bcap : Nat) (w : World) (hT : TmAt w x a c l) (hB : BindsAt w p bs.length bs) :
    Calls Try.prog 58 #[.slice p bs.length bcap, .agg #[.string x.1, .int .i64 x.2, .slice a (lenF l) c]] w fun e w' => e = .returned (.bool (decide (growN bs x l 400 < 0))) ∧ Below w.heap.size w w' := by
  have O0 := hid (One.new w x a (lenF l) c)
  have b1 := alloc_below0 w (.cells #[.string x.1, .int .i64 x.2, .slice a (lenF l) c] 26)
  have HC := hid (grow_all bs hn hnd (nodesF l) x l a c p bcap 400 _ (Nat.le_refl _) (hT.below b1) (hB.below b1) (by omega) (by omega))
  have B1 := hid b1
  have t0 := O0.out.t.c0; have t1 := O0.out.t.c1; have t2 := O0.out.t.c2
  clear hT hB b1
  go_enter Try.func58, Try.ntmps58
  go_wp2_with fail
  refine HC.out.mono ?_
  rintro e w1 ⟨rfl, hb⟩
  have HL := hid (B1.out.trans (hb.mono B1.out.size))
  clear hb HC
  go_wp2_with fail
  go_ret
  exact ⟨rfl, HL.out⟩
end Go.Proofs.Ytfnfbljijkjkjaa
/- The document's PutIn. -/
namespace Go.Proofs.Ytfnfbljijkjkjaa
open Go.RowKit Go.Deep Go.Shelf

def getN (bs : List Bn) (s : ByteArray) : Tn := match getB bs s with | some t => t | none => ((s, 0), .nil)
/-- Terms in which the first binds' terms stand for variables. -/
def pinF (bs : List Bn) : Fo → Fo
  | .nil => .nil
  | .node B O x l r => if noName x.1 = true then .node B O x (pinF bs l) (pinF bs r) else .node B O (getN bs x.1).1 (getN bs x.1).2 (pinF bs r)
def pinN (bs : List Bn) (x : ByteArray × Int) (l : Fo) : Tn := if noName x.1 = true then (x, pinF bs l) else getN bs x.1
theorem pinF_len (bs : List Bn) : ∀ F : Fo, lenF (pinF bs F) = lenF F
  | .nil => rfl
  | .node _ _ x l r => by
    unfold pinF
    split
    · simp only [lenF]; rw [pinF_len bs r]
    · simp only [lenF]; rw [pinF_len bs r]
theorem pinF_kids (bs : List Bn) : ∀ F : Fo, kidsL (pinF bs F) = (kidsL F).map fun y => pinN bs y.1 y.2
  | .nil => rfl
  | .node _ _ x l r => by
    unfold pinF
    by_cases h : noName x.1 = true
    · rw [if_pos h]
      simp only [kidsL, List.map_cons]
      rw [pinF_kids bs r]
      unfold pinN
      rw [if_pos h]
    · rw [if_neg h]
      simp only [kidsL, List.map_cons]
      rw [pinF_kids bs r]
      unfold pinN
      rw [if_neg h]
theorem no_name {s : ByteArray} (h : noName s = true) : s = ⟨#[]⟩ := name_eq (by
  have h1 : s.toList = [] := List.isEmpty_iff.1 h
  rw [h1, ByteArray.toList_eq]
  rfl)
def PinOk (bs : List Bn) (k : Nat) : Prop := ∀ (x : ByteArray × Int) (l : Fo) (a : Option Addr) (c : Nat) (p : Option Addr) (bcap : Nat) (w : World), nodesF l ≤ k → TmAt w x a c l → BindsAt w p bs.length bs →
  Calls Try.prog 59 #[.slice p bs.length bcap, .agg #[.string x.1, .int .i64 x.2, .slice a (lenF l) c]] w fun e w' => ∃ a' c', e = .returned (.agg #[.string (pinN bs x l).1.1, .int .i64 (pinN bs x l).1.2, .slice a' (lenF (pinN bs x l).2) c']) ∧ RowTm w.heap.size w' (pinN bs x l).1 a' c' (pinN bs x l).2 ∧ Below w.heap.size w w'
set_option maxRecDepth 100000 in
set_option maxHeartbeats 4000000 in
theorem pin_all (bs : List Bn) (hbn : bs.length ≤ 1048576) : ∀ k, PinOk bs k := by
  intro k
  induction k using Nat.strongRecOn with
  | _ k ih =>
    intro x l a c p bcap w hk hT hBs
    obtain ⟨i0, hi, hz0, hz1, hz2⟩ := info_parts Try.info26
    have HT : Hid (TmAt w x a c l) := hT
    have HBs := hid hBs
    have IH : Hid (∀ j, j < k → PinOk bs j) := ih
    have hn : lenF l ≤ 9223372036854775807 := by have := hT.sizes.len; have := hT.sizes.cap; unfold maxLen at *; omega
    have hfew := hT.sizes.few
    clear hT ih hBs
    cases hnm : noName x.1 with
    | true =>
      have HP : Hid (pinN bs x l = (x, pinF bs l)) := hid (by unfold pinN; rw [if_pos hnm])
      have HX1 := hid (no_name hnm)
      have hnm' : x.1.toList.isEmpty = true := hnm
      go_enter Try.func59, Try.ntmps59
      go_wp2_with fail
      go_loopw [8] (fun i wr => ∃ (j : Nat) (v : Value) (ks : List Kv), j ≤ lenF l ∧ i = .int .i64 j ∧ Three w x a (lenF l) c wr v ∧ Built false w wr v j ks ∧ ks.map (fun k => (k.x, k.l)) = ((kidsL l).take j).map (fun y => pinN bs y.1 y.2)) (fun i _ => lenF l - (intOf i).toNat)
      case atStart => exact ⟨0, _, [], Nat.zero_le _, rfl, (by have h := Three.new w x a (lenF l) c; simp only [HX1.out] at h ⊢; exact h), ⟨World.ownsRow_nil _ _ _ _, by simp⟩, by simp⟩
      case round =>
        obtain ⟨j, v, ks, hj, rfl, hTh, hBu, hks⟩ := hrel
        have hb := hTh.low
        have bT := hTh.t
        have bX := hTh.x
        have hrow := hBu.row
        have t2 := bT.c2
        by_cases hlt : j < lenF l
        · obtain ⟨bb, oo, rfl, hkk⟩ := HT.out.args.get (by omega)
          obtain ⟨y, a1, c1, l1, kd⟩ := hkk.kid (k := j) hlt
          have kd' := kd.below hb
          have X0 : Hid (XBox wr (w.heap.size + 1 + 1) x v) := bX
          have cX := X0.out.c2
          have hbb : bb < w.heap.size := World.block_lt_of_cell? w _ kd.name
          have p0 := kd'.name; have p1 := kd'.sym; have p2 := kd'.list
          have hIH := IH.out (nodesF l1) (by have := kd.less; omega) y l1 a1 c1 p bcap wr.drew (Nat.le_refl _) (kd'.at_.kept (fun _ _ h => h)) (HBs.out.below hb.drew)
          obtain ⟨⟨y', m'⟩, hz⟩ : ∃ Z, pinN bs y l1 = Z := ⟨_, rfl⟩
          rw [hz] at hIH
          have HZ := hid hz
          have HIH : Hid (Calls Try.prog 59 #[.slice p bs.length bcap, .agg #[.string y.1, .int .i64 y.2, .slice a1 (lenF l1) c1]] wr.drew fun e w' => ∃ a' c', e = .returned (.agg #[.string y'.1, .int .i64 y'.2, .slice a' (lenF m') c']) ∧ RowTm wr.heap.size w' y' a' c' m' ∧ Below wr.heap.size wr.drew w') := hIH
          have HR : Hid (wr.ownsRow (w.heap.size + 3) 26 3 v j (kvCells ks)) := hrow
          have HB : Hid (Below w.heap.size w wr) := hb
          have TH : Hid (Three w x (some ⟨bb, oo, none⟩) (lenF l) c wr v) := hTh
          have BU : Hid (Built false w wr v j ks) := hBu
          have HK : Hid (ks.map (fun k => (k.x, k.l)) = ((kidsL l).take j).map (fun y => pinN bs y.1 y.2)) := hks
          have KD : Hid (Kid w l bb oo j y a1 c1 l1) := kd
          have hmax : maxLen = 9223372036854775807 := rfl
          have hXlt : w.heap.size + 1 + 1 < wr.heap.size := X0.out.lt
          clear hIH hz kd' hkk kd hrow hb hTh hBu hks bT bX
          go_wp2_with fail
          go_region_law
            ((first
              | (refine step_append_lies _ (by rfl) (.tmp 32) (.tmp 40) 24 (by rfl) (w.heap.size + 3) 26 i0 _ 3 48 Try.underlying24 hi hz0 hz1 hz2 rfl (by decide) v j (kvCells ks) (by rfl) (owns_below (owns_below HR.out HW1.out) ((Below.refl _ _).alloc (Nat.le_refl _) _)) ⟨w1.heap.size, 0, none⟩ 1 1 (Kv.cells ⟨y', m', a', c'⟩) (by rfl) rfl (World.news_of_block (heap_alloc_new w1 _)) (kv_one _) (by decide) (by omega) (by omega) (by have := HW1.out.size; simp; omega) _ rfl ?_; intro g3 cap3 w3 hown3 hgrow3 hat3 hlt3; have X3 : Hid (XBox w3 (w.heap.size + 1 + 1) x v) := X2.out.kept hgrow3 (fun e => by have := (owns_cells HR.out e.symm).1; omega); have cX3 := X3.out.c2; have fX3 := X3.out.f (k := 2); have HO3 : Hid (w3.ownsRow (w.heap.size + 3) 26 3 (.slice (some ⟨g3, 0, none⟩) (j + 1) cap3) (j + 1) (kvCells ks ++ Kv.cells ⟨y', m', a', c'⟩)) := hown3; have HG3 : Hid ((w1.alloc (.cells #[.string y'.1, .int .i64 y'.2, .slice a' (lenF m') c'] 26)).grownBy w3 v.ownBlock ∧ (v.ownBlock = some g3 ∨ g3 = w1.heap.size + 1)) := ⟨hgrow3, by simpa using hat3⟩; clear hown3 hgrow3 hat3)
              | (go_simp; go_wp2_with (go_at_call 59; refine HIH.out.mono ?_; rintro e w1 ⟨a', c', rfl, ho1, hb1⟩; have HO1 : Hid (OwnTm false (fun k => wr.heap.size ≤ k) w1 y' a' c' m') := ho1.own; have HW1 : Hid (Below wr.heap.size wr w1) := ((Below.refl _ wr).drew).trans hb1; have X1 : Hid (XBox w1 (w.heap.size + 1 + 1) x v) := X0.out.below HW1.out; have cX1 := X1.out.c2; have X2 : Hid (XBox (w1.alloc (.cells #[.string y'.1, .int .i64 y'.2, .slice a' (lenF m') c'] 26)) (w.heap.size + 1 + 1) x v) := X1.out.below ((Below.refl _ _).alloc (Nat.le_refl _) _); have cX2 := X2.out.c2; clear ho1 hb1))
              | fail))
          all_goals
            go_wp2
            go_roundw
            case rel =>
              obtain ⟨h1, h2⟩ := build_step (kv := ⟨y', m', a', c'⟩) TH.out BU.out HW1.out HO1.out HG3.out.1 HG3.out.2 HO3.out
              obtain ⟨B1, O1, sp⟩ := KD.out.split
              exact ⟨j + 1, _, _, by omega, by go_num, h1, h2, by rw [kids_take sp, List.map_append, List.map_append, HK.out]; show _ = _ ++ [pinN bs y l1]; rw [HZ.out]; rfl⟩
            case measure => simp [intOf]; omega
        · have hjl : j = lenF l := by omega
          subst hjl
          have hks' : ks.map (fun k => (k.x, k.l)) = kidsL (pinF bs l) := by rw [hks, ← kids_len, List.take_length, pinF_kids]
          obtain ⟨a3, c3, rfl, hrt⟩ := built_done (x := x) (l := pinF bs l) (by rw [pinF_len]; exact hBu) hks' HT.out.sizes.name (by rw [pinF_len]; exact HT.out.sizes.few)
          have x0 := bX.c0; have x1 := bX.c1; have x2 := bX.c2
          have R4 : XBox wr (w.heap.size + 1) (⟨#[]⟩, 0) (.slice none 0 0) := hTh.r
          have r0 := R4.c0
          have r1 := R4.c1
          have r2 := R4.c2
          have f0 := R4.f (k := 0)
          have f1 := R4.f (k := 1)
          have f2 := R4.f (k := 2)
          have HR4 : Hid (XBox wr (w.heap.size + 1) (⟨#[]⟩, 0) (.slice none 0 0)) := R4
          have HL : Hid (Below w.heap.size w wr) := hb
          have HRT : Hid (RowTm (w.heap.size + 3) wr x a3 c3 (pinF bs l)) := hrt
          clear R4 hTh hBu hks hks' hb bT bX hrow hrt
          go_wp2
          refine bodyPost_ret (results_cell_row rfl _ _ (w.heap.size + 1) 26 #[.string x.1, .int .i64 x.2, .slice a3 (lenF (pinF bs l)) c3] (0, 0) _ rfl (HR4.out.all (x := x) _) Try.underlying26 rfl Try.size26) rfl ?_
          rw [HP.out]
          refine ⟨a3, c3, rfl, ?_, sets_below HL.out (by omega) _ _ _⟩
          have h := HRT.out.keep (W' := (((wr.setCell ⟨w.heap.size + 1, 0, none⟩ (.string x.1)).setCell ⟨w.heap.size + 1, 1, none⟩ (.int .i64 x.2)).setCell ⟨w.heap.size + 1, 2, none⟩ (.slice a3 (lenF (pinF bs l)) c3))) (fun q hq _ => sets_far (by omega) _ _ _)
          exact ⟨h.sizes, by
            rcases h.list with h | ⟨g, cur, ha, hg, hc, hk⟩
            · exact .inl h
            · exact .inr ⟨g, cur, ha, by omega, hc, hk.mono (fun q _ hq => ⟨by omega, hq.2⟩)⟩⟩
    | false =>
      have hnm' : x.1.toList.isEmpty = false := hnm
      have HP : Hid (pinN bs x l = getN bs x.1) := hid (by unfold pinN; rw [if_neg (by rw [hnm]; decide)])
      obtain ⟨W0, hW0⟩ : ∃ W0, (w.alloc (.cells #[.string x.1, .int .i64 x.2, .slice a (lenF l) c] 26)).alloc (.cells #[.string ⟨#[]⟩, .int .i64 0, .slice none 0 0] 26) = W0 := ⟨_, rfl⟩
      have hb0 : Below w.heap.size w W0 := by rw [← hW0]; exact ((Below.refl _ w).alloc (Nat.le_refl _) _).alloc (by simp) _
      have b1 : XBox W0 w.heap.size x (.slice a (lenF l) c) := by rw [← hW0]; exact (Below.heap_alloc _ _ _ (by simp)).trans (World.alloc_heap_new w _)
      have b2 : XBox W0 (w.heap.size + 1) (⟨#[]⟩, 0) (.slice none 0 0) := by
        have := World.alloc_heap_new (w.alloc (.cells #[.string x.1, .int .i64 x.2, .slice a (lenF l) c] 26)) (.cells #[.string ⟨#[]⟩, .int .i64 0, .slice none 0 0] 26)
        rw [World.size_alloc] at this
        rw [← hW0]; exact this
      have hsz : W0.heap.size = w.heap.size + 2 := by rw [← hW0]; simp
      have HG := hid (rget_any p bcap bs x.1 W0 (HBs.out.below hb0) hbn)
      have z0 := b1.c0
      go_enter Try.func59, Try.ntmps59
      go_wp2_with fail
      clear hW0
      refine HG.out.mono ?_
      rintro e w1 ⟨hb1, hres⟩
      obtain ⟨t, a', c', bo, rfl, hT1, hs1⟩ : ∃ (t : Tn) (a' : Option Addr) (c' : Nat) (bo : Bool), e = .returned (.tuple #[.agg #[.string t.1.1, .int .i64 t.1.2, .slice a' (lenF t.2) c'], .bool bo]) ∧ TmAt w1 t.1 a' c' t.2 ∧ getN bs x.1 = t := by
        rcases hres with ⟨h1, rfl⟩ | ⟨t, a', c', h1, h2, rfl⟩
        · exact ⟨((x.1, 0), .nil), none, 0, false, rfl, ⟨⟨HT.out.sizes.name, Nat.le_refl _, by simp, by simp [lenF]⟩, .inl rfl⟩, by unfold getN; rw [h1]⟩
        · exact ⟨t, a', c', true, rfl, h2.below hb1, by unfold getN; rw [h1]⟩
      have bx := alloc_below0 w1 (.cells #[.string t.1.1, .int .i64 t.1.2, .slice a' (lenF t.2) c'] 26)
      have HC := hid (rclone_any t.1 t.2 a' c' (w1.alloc (.cells #[.string t.1.1, .int .i64 t.1.2, .slice a' (lenF t.2) c'] 26)) (hT1.below bx))
      have HY1 := hid ((b2.below hb1).below bx)
      have hl1 := hb0.trans (hb1.mono hb0.size)
      have HL := hid (hl1.trans (bx.mono hl1.size))
      have HS1 := hid hs1
      have hw1 : w.heap.size + 2 ≤ w1.heap.size := by have := hb1.size; omega
      clear hres hT1 bx hb1 hl1 HG z0 b1 b2 hs1 hb0
      go_wp2_with fail
      refine HC.out.mono ?_
      rintro e w3 ⟨a3, c3, rfl, hrt, hb3⟩
      have Y3 := HY1.out.below hb3
      have HY3 := hid Y3
      have HL3 := hid (HL.out.trans (hb3.mono HL.out.size))
      have r0 := Y3.c0; have r1 := Y3.c1; have r2 := Y3.c2
      have f0 := Y3.f (k := 0); have f1 := Y3.f (k := 1); have f2 := Y3.f (k := 2)
      have HRT := hid hrt
      clear Y3 hb3 HC hrt
      go_wp2_with fail
      refine bodyPost_ret (results_cell_row rfl _ _ (w.heap.size + 1) 26 #[.string t.1.1, .int .i64 t.1.2, .slice a3 (lenF t.2) c3] (0, 0) _ rfl (HY3.out.all (x := t.1) _) Try.underlying26 rfl Try.size26) rfl ?_
      rw [HP.out, HS1.out]
      refine ⟨a3, c3, rfl, ?_, sets_below HL3.out (by omega) _ _ _⟩
      have h := HRT.out.keep (W' := (((w3.setCell ⟨w.heap.size + 1, 0, none⟩ (.string t.1.1)).setCell ⟨w.heap.size + 1, 1, none⟩ (.int .i64 t.1.2)).setCell ⟨w.heap.size + 1, 2, none⟩ (.slice a3 (lenF t.2) c3))) (fun q hq _ => sets_far (by simp only [World.size_alloc] at hq; omega) _ _ _)
      exact ⟨h.sizes, by
        rcases h.list with h | ⟨g, cur, ha, hg, hc, hk⟩
        · exact .inl h
        · simp only [World.size_alloc] at hg hk
          exact .inr ⟨g, cur, ha, by omega, hc, hk.mono (fun q _ hq => ⟨by omega, hq.2⟩)⟩⟩
end Go.Proofs.Ytfnfbljijkjkjaa
/- One bind put in, by the document's words and by the program's: the same. -/
namespace Go.Proofs.Ytfnfbljijkjkjaa

theorem getB_one (nm : ByteArray) (T : Tn) (s : ByteArray) : getB [(nm, T)] s = if nm = s then some T else none := by
  unfold getB
  by_cases h : nm = s
  · rw [if_pos h]; simp [List.find?, h]
  · rw [if_neg h]; simp [List.find?, h]
theorem getN_one (nm : ByteArray) (T : Tn) (s : ByteArray) : getN [(nm, T)] s = if nm = s then T else ((s, 0), .nil) := by
  unfold getN
  rw [getB_one]
  by_cases h : nm = s
  · rw [if_pos h, if_pos h]
  · rw [if_neg h, if_neg h]
theorem szB_one (nm : ByteArray) (T : Tn) (s : ByteArray) : szB [(nm, T)] s = if nm = s then nodesF T.2 + 1 else 1 := by
  unfold szB
  rw [getB_one]
  by_cases h : nm = s
  · rw [if_pos h, if_pos h]
  · rw [if_neg h, if_neg h]
theorem eqN_no {nm : ByteArray} {x : ByteArray × Int} (h : x.1 ≠ nm) : eqN nm x = false := by
  cases he : eqN nm x with
  | false => rfl
  | true => exact absurd (eqN_iff.1 he) h
theorem pinF_one {nm : ByteArray} {T : Tn} (hn : noName nm = false) : ∀ {F : Fo}, okF F → pinF [(nm, T)] F = w1F nm T F
  | .nil, _ => rfl
  | .node B O x l r, h => by
    obtain ⟨⟨h1, h2⟩, h3⟩ := h
    unfold pinF w1F
    rw [pinF_one hn h3]
    cases hx : noName x.1 with
    | true =>
      rw [if_pos rfl, eqN_no (nm := nm) (x := x) (fun e => by rw [e, hn] at hx; cases hx), if_neg (by simp), pinF_one hn h2]
    | false =>
      rw [if_neg (by simp), getN_one]
      obtain ⟨rfl, e2⟩ := h1 hx
      by_cases he : nm = x.1
      · rw [if_pos he, eqN_iff.2 he.symm, if_pos rfl]
      · rw [if_neg he, eqN_no (fun e => he e.symm), if_neg (by simp)]
        obtain ⟨x1, x2⟩ := x
        dsimp only at e2
        subst e2
        rfl
theorem pinN_one {nm : ByteArray} {T : Tn} (hn : noName nm = false) {x : ByteArray × Int} {l : Fo} (h : okT (x, l)) : pinN [(nm, T)] x l = w1N nm T x l := by
  obtain ⟨h1, h2⟩ := h
  unfold pinN w1N
  cases hx : noName x.1 with
  | true =>
    rw [if_pos rfl, eqN_no (nm := nm) (x := x) (fun e => by rw [e, hn] at hx; cases hx), if_neg (by simp), pinF_one hn h2]
  | false =>
    rw [if_neg (by simp), getN_one]
    obtain ⟨e1, e2⟩ := h1 hx
    dsimp only at e1 e2
    subst e1
    by_cases he : nm = x.1
    · rw [if_pos he, eqN_iff.2 he.symm, if_pos rfl]
    · rw [if_neg he, eqN_no (fun e => he e.symm), if_neg (by simp)]
      obtain ⟨x1, x2⟩ := x
      dsimp only at e2
      subst e2
      rfl
theorem growF_one {nm : ByteArray} {T : Tn} (hn : noName nm = false) : ∀ {F : Fo} (r : Int), okF F → growF [(nm, T)] F r = l1F nm ((nodesF T.2 : Int) + 1) F r
  | .nil, _, _ => rfl
  | .node B O x l s, r, h => by
    obtain ⟨⟨h1, h2⟩, h3⟩ := h
    unfold growF l1F
    by_cases hr : r < 0
    · rw [if_pos hr, if_pos hr]
    · rw [if_neg hr, if_neg hr, growF_one hn _ h3]
      congr 1
      cases hx : noName x.1 with
      | true =>
        rw [if_pos rfl, eqN_no (nm := nm) (x := x) (fun e => by rw [e, hn] at hx; cases hx), if_neg (by simp), growF_one hn _ h2]
      | false =>
        rw [if_neg (by simp), szB_one]
        obtain ⟨rfl, e2⟩ := h1 hx
        by_cases he : nm = x.1
        · rw [if_pos he, eqN_iff.2 he.symm, if_pos rfl]; omega
        · rw [if_neg he, eqN_no (fun e => he e.symm), if_neg (by simp)]
          rfl
theorem growN_one {nm : ByteArray} {T : Tn} (hn : noName nm = false) {x : ByteArray × Int} {l : Fo} (h : okT (x, l)) (r : Int) : growN [(nm, T)] x l r = l1N nm ((nodesF T.2 : Int) + 1) x l r := by
  obtain ⟨h1, h2⟩ := h
  unfold growN l1N
  cases hx : noName x.1 with
  | true =>
    rw [if_pos rfl, eqN_no (nm := nm) (x := x) (fun e => by rw [e, hn] at hx; cases hx), if_neg (by simp), growF_one hn _ h2]
  | false =>
    rw [if_neg (by simp), szB_one]
    obtain ⟨e1, e2⟩ := h1 hx
    dsimp only at e1 e2
    subst e1
    by_cases he : nm = x.1
    · rw [if_pos he, eqN_iff.2 he.symm, if_pos rfl]; omega
    · rw [if_neg he, eqN_no (fun e => he e.symm), if_neg (by simp)]
      rfl
theorem grow_room {nm : ByteArray} {T : Tn} (hn : noName nm = false) {x : ByteArray × Int} {l : Fo} (h : okT (x, l)) : decide (growN [(nm, T)] x l 400 < 0) = !roomT nm T (x, l) := by
  rw [growN_one hn h]
  unfold roomT roomB
  dsimp only
  by_cases h0 : 0 ≤ l1N nm ((nodesF T.2 : Int) + 1) x l 400
  · rw [decide_eq_true h0, decide_eq_false (by omega)]; rfl
  · rw [decide_eq_false h0, decide_eq_true (by omega)]; rfl
end Go.Proofs.Ytfnfbljijkjkjaa
/- Terms of a call's own making lie in blocks of terms; rows of equations and binds, laid anew. -/
namespace Go.Proofs.Ytfnfbljijkjkjaa
open Go.RowKit Go.Deep

theorem S0_26 (N b : Nat) (cur : Array Value) (fr : Nat × Nat) : S0 N b (.cells cur 26 fr) = true := by
  unfold S0 is26
  simp
theorem ownK_off {mk : Bool} {P : Nat → Prop} {w : World} {N : Nat} : ∀ {F : Fo} {b o : Nat}, (∃ cur, w.heap[b]? = some (Obj.cells cur 26 (0, 0))) → OwnKids mk P w F b o → KidsAt (offW (S0 N) w) F b o
  | .nil, _, _, _, _ => trivial
  | .node _ _ _ l r, b, o, hb, ⟨⟨a, c, h0, h1, h2, hs, hl⟩, hr⟩ => by
    obtain ⟨cur, hc⟩ := hb
    have hk : ∀ p v, w.cell? ⟨b, p, none⟩ = some v → (offW (S0 N) w).cell? ⟨b, p, none⟩ = some v := fun p v hv => off_of (p := ⟨b, p, none⟩) hc (S0_26 N b cur _) hv
    refine ⟨⟨a, c, hk _ _ h0, hk _ _ h1, hk _ _ h2, hs, ?_⟩, ownK_off ⟨cur, hc⟩ hr⟩
    rcases hl with ⟨h, _⟩ | ⟨g, cur', ha, _, hc', _, hk'⟩
    · exact .inl h
    · exact .inr ⟨g, 0, ha, ownK_off ⟨cur', hc'⟩ hk'⟩
theorem own_O {mk : Bool} {P : Nat → Prop} {w : World} (N : Nat) {x : ByteArray × Int} {a : Option Addr} {c : Nat} {l : Fo} (h : OwnTm mk P w x a c l) : TmO (S0 N) w x a c l :=
  ⟨h.sizes, by
    rcases h.list with ⟨h, _⟩ | ⟨g, cur, ha, _, hc, _, hk⟩
    · exact .inl h
    · exact .inr ⟨g, 0, ha, ownK_off ⟨cur, hc⟩ hk⟩⟩
end Go.Proofs.Ytfnfbljijkjkjaa
/- Rows of equations: side by side in memory; appended. -/
namespace Go.Proofs.Ytfnfbljijkjkjaa
open Go.RowKit Go.Deep

def eqAll (P : List Eq2) : List Value := kvCells (flatK P)
theorem eqAll_cons (p : Eq2) (r : List Eq2) : eqAll (p :: r) = .string p.1.x.1 :: .int .i64 p.1.x.2 :: .slice p.1.a (lenF p.1.l) p.1.c :: .string p.2.x.1 :: .int .i64 p.2.x.2 :: .slice p.2.a (lenF p.2.l) p.2.c :: eqAll r := rfl
theorem eqAll_len : ∀ P : List Eq2, (eqAll P).length = P.length * 6
  | [] => rfl
  | p :: r => by rw [eqAll_cons]; simp only [List.length_cons]; rw [eqAll_len r]; omega
theorem eqAll_app (P R : List Eq2) : eqAll (P ++ R) = eqAll P ++ eqAll R := by unfold eqAll; rw [flatK_app]; unfold kvCells; rw [List.flatMap_append]
theorem eqAll_one : ∀ P : List Eq2, ∀ u ∈ eqAll P, u.oneCell' = true
  | [], u, h => by simp [eqAll, flatK, kvCells] at h
  | p :: r, u, h => by
    rw [eqAll_cons] at h
    simp only [List.mem_cons] at h
    rcases h with rfl | rfl | rfl | rfl | rfl | rfl | h
    · rfl
    · rfl
    · rfl
    · rfl
    · rfl
    · rfl
    · exact eqAll_one r u h
/-- Equations side by side in memory. -/
structure RowE (w : World) (a : Option Addr) (n : Nat) (P : List Eq2) : Prop where
  len : n = P.length
  cells : ∀ j u, (eqAll P)[j]? = some u → ∃ b off, a = some ⟨b, off, none⟩ ∧ w.cell? ⟨b, off + j, none⟩ = some u
theorem RowE.below {w w' : World} {a : Option Addr} {n : Nat} {P : List Eq2} (h : RowE w a n P) (hb : Below w.heap.size w w') : RowE w' a n P :=
  ⟨h.len, fun j u hu => by obtain ⟨b, off, ha, hc⟩ := h.cells j u hu; exact ⟨b, off, ha, bd_cell hb _ _ hc⟩⟩
theorem RowE.empty (w : World) (a : Option Addr) : RowE w a 0 [] := ⟨rfl, fun j u hu => by simp [eqAll, flatK, kvCells] at hu⟩
theorem RowE.of {w : World} {B g n cap : Nat} {P : List Eq2} (h : w.ownsRow B 28 6 (.slice (some ⟨g, 0, none⟩) n cap) n (eqAll P)) (hn : n = P.length) : RowE w (some ⟨g, 0, none⟩) n P := ⟨hn, fun j u hu => ⟨g, 0, rfl, owns_at h j u hu⟩⟩
theorem RowE.tail {w : World} {b off n : Nat} {p : Eq2} {r : List Eq2} (h : RowE w (some ⟨b, off, none⟩) n (p :: r)) : RowE w (some ⟨b, off + 6, none⟩) (n - 1) r := ⟨by rw [h.len]; rfl, fun j u hu => by
  obtain ⟨b', off', e, hc⟩ := h.cells (j + 6) u (by rw [eqAll_cons]; exact hu)
  cases e
  exact ⟨b, off + 6, rfl, by rw [Nat.add_assoc, Nat.add_comm 6 j]; exact hc⟩⟩
theorem RowE.head {w : World} {a : Option Addr} {n : Nat} {p : Eq2} {r : List Eq2} (h : RowE w a n (p :: r)) : ∃ b off, a = some ⟨b, off, none⟩ ∧ w.cell? ⟨b, off, none⟩ = some (.string p.1.x.1) ∧ w.cell? ⟨b, off + 1, none⟩ = some (.int .i64 p.1.x.2) ∧ w.cell? ⟨b, off + 2, none⟩ = some (.slice p.1.a (lenF p.1.l) p.1.c) ∧ w.cell? ⟨b, off + 3, none⟩ = some (.string p.2.x.1) ∧ w.cell? ⟨b, off + 4, none⟩ = some (.int .i64 p.2.x.2) ∧ w.cell? ⟨b, off + 5, none⟩ = some (.slice p.2.a (lenF p.2.l) p.2.c) := by
  obtain ⟨b, off, e, h0⟩ := h.cells 0 _ rfl
  refine ⟨b, off, e, h0, ?_⟩
  have k : ∀ j u, (eqAll (p :: r))[j]? = some u → w.cell? ⟨b, off + j, none⟩ = some u := fun j u hu => by
    obtain ⟨b', off', e', hc⟩ := h.cells j u hu
    rw [e] at e'
    cases e'
    exact hc
  exact ⟨k 1 _ rfl, k 2 _ rfl, k 3 _ rfl, k 4 _ rfl, k 5 _ rfl⟩
theorem eqs_cells {W : World} {g : Nat} : ∀ (P : List Eq2) (o : Nat), (∀ i (h : i < P.length), W.cell? ⟨g, o + i * 6, none⟩ = some (.string P[i].1.x.1) ∧ W.cell? ⟨g, o + i * 6 + 1, none⟩ = some (.int .i64 P[i].1.x.2) ∧ W.cell? ⟨g, o + i * 6 + 2, none⟩ = some (.slice P[i].1.a (lenF P[i].1.l) P[i].1.c) ∧ W.cell? ⟨g, o + i * 6 + 3, none⟩ = some (.string P[i].2.x.1) ∧ W.cell? ⟨g, o + i * 6 + 4, none⟩ = some (.int .i64 P[i].2.x.2) ∧ W.cell? ⟨g, o + i * 6 + 5, none⟩ = some (.slice P[i].2.a (lenF P[i].2.l) P[i].2.c)) →
    ∀ j u, (eqAll P)[j]? = some u → W.cell? ⟨g, o + j, none⟩ = some u
  | [], _, _, j, u, hu => by simp [eqAll, flatK, kvCells] at hu
  | p :: r, o, h, j, u, hu => by
    obtain ⟨h0, h1, h2, h3, h4, h5⟩ := h 0 (by simp)
    simp only [Nat.zero_mul, Nat.add_zero, List.getElem_cons_zero] at h0 h1 h2 h3 h4 h5
    rw [eqAll_cons] at hu
    match j, hu with
    | 0, hu => rw [← Option.some.inj hu]; exact h0
    | 1, hu => rw [← Option.some.inj hu]; exact h1
    | 2, hu => rw [← Option.some.inj hu]; exact h2
    | 3, hu => rw [← Option.some.inj hu]; exact h3
    | 4, hu => rw [← Option.some.inj hu]; exact h4
    | 5, hu => rw [← Option.some.inj hu]; exact h5
    | k + 6, hu =>
      have := eqs_cells r (o + 6) (fun i hi => by
        have := h (i + 1) (by simpa using hi)
        simp only [List.getElem_cons_succ] at this
        rw [show o + (i + 1) * 6 = o + 6 + i * 6 by omega] at this
        exact this) k u hu
      rw [show o + (k + 6) = o + 6 + k by omega]
      exact this
theorem EqsAt.row {W : World} {q : Option Addr} {P : List Eq2} (h : EqsAt W q P) : RowE W q P.length P := ⟨rfl, fun j u hu => by
  cases P with
  | nil => simp [eqAll, flatK, kvCells] at hu
  | cons p r =>
    obtain ⟨g, o, rfl, _⟩ := h 0 (by simp)
    refine ⟨g, o, rfl, eqs_cells (p :: r) o (fun i hi => ?_) j u hu⟩
    obtain ⟨g', o', e, hh⟩ := h i hi
    cases e
    exact hh⟩
theorem row_empty28 (W : World) : (W.alloc (.cells #[] 28)).ownsRow W.heap.size 28 6 (.slice (some ⟨W.heap.size, 0, none⟩) 0 0) 0 (eqAll []) :=
  ⟨rfl, Or.inr ⟨W.heap.size, 0, #[], rfl, Nat.le_refl _, World.alloc_heap_new W _, Nat.le_refl _, by simp, rfl, rfl⟩⟩
set_option maxRecDepth 100000 in
/-- append of what another slice holds, be it nil, be it empty. -/
theorem wpList_append_eqs {ops : Array Oper} {rest : List Oper} {o : Oper} {a : Act} {Q : Exit → Act → World → Prop} {W : World} (hgd : o.guard = none) (s x : Operand)
    (ho : o.op = .call { callee := .builtin .append, args := #[s, x], argTypes := #[34, 34] }) (base : Nat) (v : Value) (ks : List Eq2) (hs : a.eval s = v) (hown : W.ownsRow base 28 6 v ks.length (eqAll ks))
    (sa : Option Addr) (m c : Nat) (ms : List Eq2) (hx : a.eval x = .slice sa m c) (hm : RowE W sa m ms) (hnil : sa = none → c = 0) (hbig : ks.length + m ≤ 4294967296) (hbase : base ≤ W.heap.size)
    (h : ∀ v' w', w'.ownsRow base 28 6 v' (ks ++ ms).length (eqAll (ks ++ ms)) → W.grownBy w' v.ownBlock → wpList Try.prog ops Q rest (a.put o.dst v') w') : wpList Try.prog ops Q (o :: rest) a W := by
  obtain ⟨i0, hi, hz0, hz1, hz2⟩ := info_parts Try.info28
  have hmax : maxLen = 9223372036854775807 := rfl
  rcases sa with _ | ⟨b, off, sp⟩
  · obtain rfl : ms = [] := by
      cases ms with
      | nil => rfl
      | cons k r =>
        obtain ⟨_, _, e, _⟩ := hm.cells 0 _ rfl
        cases e
    obtain rfl := hm.len
    obtain rfl := hnil rfl
    refine wpList_append_own_none hgd s x 34 ho base 28 i0 6 Try.underlying34 hi v ks.length (eqAll ks) hs hown hx (h v W (by simpa using hown) ?_)
    exact ⟨rfl, rfl, rfl, Nat.le_refl _, fun _ _ _ => rfl⟩
  · have hlm := hm.len
    refine wpList_append_own _ hgd s x 34 ho base 28 i0 _ 6 96 Try.underlying34 hi hz0 hz1 hz2 rfl (by decide) v ks.length (eqAll ks) hs hown ⟨b, off, sp⟩ m c (eqAll ms) hx (by rw [eqAll_len, hlm]) (fun j u hu => ?_) (eqAll_one ms) (by omega) (by omega) hbase ?_
    · obtain ⟨b', off', e, hc⟩ := hm.cells j u hu
      cases e
      rw [← hc]
      congr 1
      unfold Addr.add
      split <;> simp_all
    · intro v' w' h1 h2 _
      refine h v' w' ?_ h2
      rw [eqAll_app, List.length_append, ← hlm]
      exact h1
end Go.Proofs.Ytfnfbljijkjkjaa
/- The document's Free, plainly: it goes as the program's does, but for sides that are the same. -/
namespace Go.Proofs.Ytfnfbljijkjkjaa

theorem afF_kids (sg : List Sym) : ∀ F : Fo, afF sg F = true ↔ ∀ k ∈ kidsL F, afT sg k.1 k.2 = true
  | .nil => by simp [afF, kidsL]
  | .node _ _ x l r => by
    simp only [afF, kidsL, List.mem_cons, Bool.and_eq_true]
    rw [afF_kids sg r]
    constructor
    · rintro ⟨⟨h1, h2⟩, h3⟩ k (rfl | hk)
      · unfold afT; rw [h1, h2]; rfl
      · exact h3 k hk
    · intro h
      have h0 := h _ (.inl rfl)
      unfold afT at h0
      rw [Bool.and_eq_true] at h0
      exact ⟨h0, fun k hk => h k (.inr hk)⟩
theorem afF_w1 {sg : List Sym} {nm : ByteArray} {T : Tn} (hT : afT sg T.1 T.2 = true) : ∀ {F : Fo}, afF sg F = true → afF sg (w1F nm T F) = true
  | .nil, _ => rfl
  | .node _ _ x l r, h => by
    rw [afF, Bool.and_eq_true, Bool.and_eq_true] at h
    unfold w1F
    split
    · rw [afF, afF_w1 hT h.2, Bool.and_true]
      exact hT
    · rw [afF, afF_w1 hT h.2, afF_w1 hT h.1.2, h.1.1]
      rfl
def Af (sg : List Sym) (t : Tn) : Prop := afT sg t.1 t.2 = true
theorem Af.w1 {sg : List Sym} {nm : ByteArray} {T t : Tn} (hT : Af sg T) (h : Af sg t) : Af sg (w1T nm T t) := by
  unfold w1T w1N
  split
  · exact hT
  · unfold Af afT at h
    rw [Bool.and_eq_true] at h
    show (fr1 sg t.1 && afF sg (w1F nm T t.2)) = true
    rw [h.1, afF_w1 hT h.2]
    rfl
theorem Af.kid {sg : List Sym} {t k : Tn} (h : Af sg t) (hk : k ∈ kidsL t.2) : Af sg k := by
  unfold Af afT at h
  rw [Bool.and_eq_true] at h
  exact (afF_kids sg t.2).1 h.2 k hk
theorem Af.sym {sg : List Sym} {t : Tn} (h : Af sg t) (hx : noName t.1.1 = true) : freeB sg t.1.2 = true := by
  unfold Af afT fr1 at h
  rw [hx, Bool.and_eq_true] at h
  exact h.1
theorem Af.in {sg : List Sym} {t : Tn} (h : Af sg t) (hx : noName t.1.1 = true) : 0 ≤ t.1.2 ∧ t.1.2 < sg.length := by
  have := h.sym hx
  unfold freeB at this
  rw [Bool.and_eq_true, Bool.and_eq_true, decide_eq_true_eq, decide_eq_true_eq] at this
  exact ⟨this.1, this.2.1⟩
theorem cmpF_kids : ∀ (F G : Fo), lenF F = lenF G → cmpF F G = 0 → ∀ q ∈ (kidsL F).zip (kidsL G), cmpN q.1 q.2 = 0
  | .nil, _, _, _, q, hq => by simp [kidsL] at hq
  | .node _ _ _ _ _, .nil, h, _, _, _ => by simp [lenF] at h
  | .node _ _ x l r, .node _ _ y m s, h, hc, q, hq => by
    rw [cmpF] at hc
    by_cases h1 : cmp1 x y (lenF l) (lenF m) (cmpF l m) = 0
    · rw [thenC, if_pos h1] at hc
      simp only [kidsL, List.zip_cons_cons, List.mem_cons] at hq
      rcases hq with rfl | hq
      · exact h1
      · exact cmpF_kids r s (by simpa [lenF] using h) hc q hq
    · rw [thenC, if_neg h1] at hc; exact absurd hc h1
theorem cmp_zero {p q : Tn} (h : cmpN p q = 0) : (noName p.1.1 = false ∧ noName q.1.1 = false) ∨ (noName p.1.1 = true ∧ noName q.1.1 = true ∧ p.1.2 = q.1.2 ∧ lenF p.2 = lenF q.2 ∧ cmpF p.2 q.2 = 0) := by
  unfold cmpN cmp1 at h
  cases hx : noName p.1.1 <;> cases hy : noName q.1.1 <;> rw [hx, hy] at h <;> simp only [if_true, if_false, Bool.true_eq_false] at h
  · exact .inl ⟨rfl, rfl⟩
  · omega
  · omega
  · refine .inr ⟨rfl, rfl, ?_⟩
    by_cases h1 : p.1.2 = q.1.2
    · rw [if_pos h1] at h
      by_cases h2 : lenF p.2 = lenF q.2
      · rw [if_pos h2] at h; exact ⟨h1, h2, h⟩
      · rw [if_neg h2] at h
        exact absurd (by have := compareInt_zero h; omega) h2
    · rw [if_neg h1] at h
      exact absurd (compareInt_zero h) h1
theorem free_same {sg : List Sym} {R : Int × List Bn} {bs : List Bn} : ∀ (n : Nat) (p : Tn × Tn) (r : List (Tn × Tn)) (f : Nat), nodesF p.1.2 < n → cmpN p.1 p.2 = 0 → Af sg p.1 → FInv sg R f (p :: r) bs → ∃ g, g < f ∧ FInv sg R g r bs := by
  intro n
  induction n with
  | zero => intro p r f hn; omega
  | succ n ih =>
    intro p r f hn h0 ha hF
    rcases cmp_zero h0 with ⟨hx, hy⟩ | ⟨hx, hy, h1, h2, h3⟩
    · have e : lookP sg p.1 p.2 = actW 1 := by
        unfold lookP ofVarsP
        rw [hx, hy, if_pos rfl, if_pos rfl, if_pos h0]
      exact hF.next (by rw [e]; decide) (by rw [e]; decide) (by rw [e]; decide)
    · have e : lookP sg p.1 p.2 = ⟨4, noS, zT, (kidsL p.1.2).zip (kidsL p.2.2), 0⟩ := by
        unfold lookP sideP
        rw [hx, hy, if_neg (by simp), if_neg (by simp), if_pos h1, ha.sym hx, if_pos rfl, if_pos h2]
      obtain ⟨g, hg, hF2⟩ := hF.parts (by rw [e])
      rw [e] at hF2
      have key : ∀ (L : List (Tn × Tn)) (g : Nat), (∀ q ∈ L, cmpN q.1 q.2 = 0 ∧ Af sg q.1 ∧ nodesF q.1.2 < n) → FInv sg R g (L ++ r) bs → ∃ g', g' ≤ g ∧ FInv sg R g' r bs := by
        intro L
        induction L with
        | nil => intro g _ h; exact ⟨g, Nat.le_refl _, h⟩
        | cons q L ihL =>
          intro g hq h
          obtain ⟨q1, q2, q3⟩ := hq q (.head _)
          obtain ⟨g1, h4, h5⟩ := ih q (L ++ r) g q3 q1 q2 h
          obtain ⟨g2, h6, h7⟩ := ihL g1 (fun z hz => hq z (.tail _ hz)) h5
          exact ⟨g2, by omega, h7⟩
      obtain ⟨g', h4, h5⟩ := key _ g (fun q hq => by
        obtain ⟨k1, _⟩ := List.of_mem_zip (a := q.1) (b := q.2) hq
        have := mem_sizes k1
        rw [← nodes_sizes] at this
        unfold sizeT at this
        exact ⟨cmpF_kids _ _ h2 h3 q hq, ha.kid k1, by omega⟩) hF2
      exact ⟨g', by omega, h5⟩
/-- What the document's Free keeps from round to round. -/
structure RInv (sg : List Sym) (R : Int × List Bn) (f : Nat) (st : List (Tn × Tn)) (ks : List Bn) : Prop where
  is : ∃ bs, FInv sg R f st bs ∧ ks.Perm bs ∧ ∀ b ∈ bs, okT b.2
  af : ∀ p ∈ st, Af sg p.1 ∧ Af sg p.2
  srt : SrtB ks
theorem RInv.same {sg : List Sym} {R : Int × List Bn} {f : Nat} {p : Tn × Tn} {r : List (Tn × Tn)} {ks : List Bn} (h : RInv sg R f (p :: r) ks) (h0 : cmpN p.1 p.2 = 0) : ∃ g, g < f ∧ RInv sg R g r ks := by
  obtain ⟨bs, h1, h2, h3⟩ := h.is
  obtain ⟨g, hg, h4⟩ := free_same _ p r f (Nat.lt_succ_self _) h0 (h.af p (.head _)).1 h1
  exact ⟨g, hg, ⟨bs, h4, h2, h3⟩, fun q hq => h.af q (.tail _ hq), h.srt⟩
theorem RInv.done {sg : List Sym} {R : Int × List Bn} {f : Nat} {ks : List Bn} (h : RInv sg R f [] ks) : ∃ bs, R = (0, bs) ∧ ks.Perm bs := by
  obtain ⟨bs, h1, h2, _⟩ := h.is
  exact ⟨bs, h1.done, h2⟩
theorem RInv.fail {sg : List Sym} {R : Int × List Bn} {f : Nat} {p : Tn × Tn} {r : List (Tn × Tn)} {ks : List Bn} (h : RInv sg R f (p :: r) ks) (ha : (lookP sg p.1 p.2).act = 2) : R = (1, []) := by
  obtain ⟨bs, h1, _, _⟩ := h.is
  exact h1.fail ha
theorem RInv.grown {sg : List Sym} {R : Int × List Bn} {f : Nat} {p : Tn × Tn} {r : List (Tn × Tn)} {ks : List Bn} (h : RInv sg R f (p :: r) ks) (ha : (lookP sg p.1 p.2).act = 3) (hr : roomS (lookP sg p.1 p.2).bv (lookP sg p.1 p.2).t r ks = false) : R = (2, []) := by
  obtain ⟨bs, h1, h2, _⟩ := h.is
  exact h1.grown ha (by rw [← room_perm h2]; exact hr)
theorem RInv.parts {sg : List Sym} {R : Int × List Bn} {f : Nat} {p : Tn × Tn} {r : List (Tn × Tn)} {ks : List Bn} (h : RInv sg R f (p :: r) ks) (ha : (lookP sg p.1 p.2).act = 4) : ∃ g, g < f ∧ RInv sg R g ((lookP sg p.1 p.2).ls ++ r) ks := by
  obtain ⟨bs, h1, h2, h3⟩ := h.is
  obtain ⟨g, hg, h4⟩ := h1.parts ha
  refine ⟨g, hg, ⟨bs, h4, h2, h3⟩, fun q hq => ?_, h.srt⟩
  rcases List.mem_append.1 hq with hq | hq
  · obtain ⟨_, _, _, _, e⟩ := look_parts ha
    rw [e] at hq
    obtain ⟨k1, k2⟩ := List.of_mem_zip (a := q.1) (b := q.2) hq
    exact ⟨(h.af p (.head _)).1.kid k1, (h.af p (.head _)).2.kid k2⟩
  · exact h.af q (.tail _ hq)
theorem RInv.len {sg : List Sym} {R : Int × List Bn} {f : Nat} {st : List (Tn × Tn)} {ks : List Bn} (h : RInv sg R f st ks) : st.length ≤ 1073741823 ∧ ks.length ≤ 1048576 := by
  obtain ⟨bs, h1, h2, _⟩ := h.is
  have := h1.len
  rw [h2.length_eq]
  exact this
theorem RInv.oks {sg : List Sym} {R : Int × List Bn} {f : Nat} {st : List (Tn × Tn)} {ks : List Bn} (h : RInv sg R f st ks) : (∀ q ∈ st, (okT q.1 ∧ okT q.2) ∧ nodesF q.1.2 ≤ 1048576 ∧ nodesF q.2.2 ≤ 1048576) ∧ ∀ b ∈ ks, okT b.2 ∧ nodesF b.2.2 ≤ 1048576 := by
  obtain ⟨bs, h1, h2, h3⟩ := h.is
  obtain ⟨L, M, g1, _⟩ := h1.good
  exact ⟨fun q hq => ⟨g1.ok q hq, g1.sz q hq⟩, fun b hb => ⟨h3 b (h2.mem_iff.1 hb), h1.bsz b (h2.mem_iff.1 hb)⟩⟩
theorem RInv.set {sg : List Sym} {R : Int × List Bn} {f : Nat} {p : Tn × Tn} {r : List (Tn × Tn)} {ks : List Bn} (h : RInv sg R f (p :: r) ks) (ha : (lookP sg p.1 p.2).act = 3) (hr : roomS (lookP sg p.1 p.2).bv (lookP sg p.1 p.2).t r ks = true)
    {j : Nat} (hj : j ≤ ks.length) (h1 : ∀ z ∈ (putB (lookP sg p.1 p.2).bv (lookP sg p.1 p.2).t ks).drop j, leS z.1 (lookP sg p.1 p.2).bv = false) (h2 : ∀ z, 0 < j → (putB (lookP sg p.1 p.2).bv (lookP sg p.1 p.2).t ks)[j - 1]? = some z → leS z.1 (lookP sg p.1 p.2).bv = true) :
    ∃ g, g < f ∧ RInv sg R g (putS (lookP sg p.1 p.2).bv (lookP sg p.1 p.2).t r) ((putB (lookP sg p.1 p.2).bv (lookP sg p.1 p.2).t ks).take j ++ [((lookP sg p.1 p.2).bv, (lookP sg p.1 p.2).t)] ++ (putB (lookP sg p.1 p.2).bv (lookP sg p.1 p.2).t ks).drop j) := by
  obtain ⟨bs, g1, g2, g3⟩ := h.is
  obtain ⟨g, hg, g4⟩ := g1.set ha (by rw [← room_perm g2]; exact hr)
  have ho := (g1.sides).1
  have hap := h.af p (.head _)
  obtain ⟨_, e2, _, e4⟩ := look_set ho.1 ho.2 ha
  have hT : Af sg (lookP sg p.1 p.2).t := by
    rcases e4 with ⟨_, e, _⟩ | ⟨_, e, _⟩
    · rw [e]; exact hap.2
    · rw [e]; exact hap.1
  refine ⟨g, hg, ⟨_, g4, ((with_permB _ _ _).trans ((putB_perm g2).append_right _)), fun b hb => ?_⟩, fun q hq => ?_, with_srt (putB_srt h.srt) h1 h2 (by unfold putB; rw [List.length_map]; exact hj)⟩
  · rcases List.mem_append.1 hb with hb | hb
    · obtain ⟨b', hb', rfl⟩ := List.mem_map.1 hb
      exact okT_w1 e2 (g3 b' hb')
    · rw [List.mem_singleton.1 hb]; exact e2
  · obtain ⟨q', hq', rfl⟩ := List.mem_map.1 hq
    have := h.af q' (.tail _ hq')
    exact ⟨hT.w1 this.1, hT.w1 this.2⟩
theorem look_not {sg : List Sym} {A B : Tn} (h0 : cmpN A B ≠ 0) (hA : Af sg A) : (lookP sg A B).act ≠ 1 ∧ (lookP sg A B).act ≠ 5 := by
  unfold lookP
  cases hx : noName A.1.1 <;> cases hy : noName B.1.1
  · rw [if_pos rfl, if_pos rfl]
    unfold ofVarsP
    rw [if_neg h0]
    split <;> exact ⟨(show (3 : Int) ≠ 1 by decide), (show (3 : Int) ≠ 5 by decide)⟩
  · rw [if_pos rfl, if_neg (by decide)]
    unfold ofVarP
    split
    · exact ⟨(show (2 : Int) ≠ 1 by decide), (show (2 : Int) ≠ 5 by decide)⟩
    · exact ⟨(show (3 : Int) ≠ 1 by decide), (show (3 : Int) ≠ 5 by decide)⟩
  · rw [if_neg (by decide), if_pos rfl]
    unfold ofVarP
    split
    · exact ⟨(show (2 : Int) ≠ 1 by decide), (show (2 : Int) ≠ 5 by decide)⟩
    · exact ⟨(show (3 : Int) ≠ 1 by decide), (show (3 : Int) ≠ 5 by decide)⟩
  · rw [if_neg (by decide), if_neg (by decide)]
    split
    · rw [hA.sym hx, if_pos rfl]
      unfold sideP
      split
      · exact ⟨(show (4 : Int) ≠ 1 by decide), (show (4 : Int) ≠ 5 by decide)⟩
      · exact ⟨(show (2 : Int) ≠ 1 by decide), (show (2 : Int) ≠ 5 by decide)⟩
    · exact ⟨(show (2 : Int) ≠ 1 by decide), (show (2 : Int) ≠ 5 by decide)⟩
theorem free_more {sg : List Sym} : ∀ (f : Nat) (st : List (Tn × Tn)) (bs : List Bn) (R : Int × List Bn), freeF sg f st bs = some R → freeF sg (f + 1) st bs = some R := by
  intro f
  induction f with
  | zero => intro st bs R h; rw [freeF] at h; cases h
  | succ f ih =>
    intro st bs R h
    cases st with
    | nil => rw [freeF] at h ⊢; exact h
    | cons p r =>
      rw [freeF] at h ⊢
      split
      · rename_i h1; rw [if_pos h1] at h; exact h
      · rename_i h1
        rw [if_neg h1] at h
        split
        · rename_i h2
          rw [if_pos h2] at h
          split
          · rename_i h3; rw [if_pos h3] at h; exact ih _ _ _ h
          · rename_i h3; rw [if_neg h3] at h; exact h
        · rename_i h2
          rw [if_neg h2] at h
          split
          · rename_i h3; rw [if_pos h3] at h; exact ih _ _ _ h
          · rename_i h3; rw [if_neg h3] at h; exact ih _ _ _ h
theorem free_le {sg : List Sym} {f g : Nat} {st : List (Tn × Tn)} {bs : List Bn} {R : Int × List Bn} (h : freeF sg f st bs = some R) (hl : f ≤ g) : freeF sg g st bs = some R := by
  obtain ⟨k, rfl⟩ : ∃ k, g = f + k := ⟨g - f, by omega⟩
  induction k with
  | zero => exact h
  | succ k ih => exact free_more _ _ _ _ (ih (by omega))
theorem free_one {sg : List Sym} {f g : Nat} {st : List (Tn × Tn)} {bs : List Bn} {R Q : Int × List Bn} (h : freeF sg f st bs = some R) (k : freeF sg g st bs = some Q) : R = Q := by
  rcases Nat.le_total f g with hl | hl
  · have := free_le h hl; rw [this] at k; exact Option.some.inj k
  · have := free_le k hl; rw [this] at h; exact (Option.some.inj h).symm
end Go.Proofs.Ytfnfbljijkjkjaa
/- The document's set, and its One but for parts. -/
namespace Go.Proofs.Ytfnfbljijkjkjaa
open Go.RowKit Go.Deep

theorem four_new (w : World) (c1 : Array Value) (t1 : TypeId) (c2 : Array Value) (t2 : TypeId) (c3 : Array Value) (t3 : TypeId) (c4 : Array Value) (t4 : TypeId) :
    Box ((((w.alloc (.cells c1 t1)).alloc (.cells c2 t2)).alloc (.cells c3 t3)).alloc (.cells c4 t4)) (w.heap.size + 1) t2 c2 ∧ Box ((((w.alloc (.cells c1 t1)).alloc (.cells c2 t2)).alloc (.cells c3 t3)).alloc (.cells c4 t4)) (w.heap.size + 1 + 1) t3 c3 ∧ Box ((((w.alloc (.cells c1 t1)).alloc (.cells c2 t2)).alloc (.cells c3 t3)).alloc (.cells c4 t4)) (w.heap.size + 1 + 1 + 1) t4 c4 ∧ Below w.heap.size w ((((w.alloc (.cells c1 t1)).alloc (.cells c2 t2)).alloc (.cells c3 t3)).alloc (.cells c4 t4)) :=
  ⟨((two_new w c1 t1 c2 t2).2.1.over _).over _, (box_new (by simp) t3 c3).over _, box_new (by simp) t4 c4, ((two_new w c1 t1 c2 t2).2.2.alloc (by simp; omega) _).alloc (by simp; omega) _⟩

set_option maxRecDepth 100000 in
set_option maxHeartbeats 2000000 in
theorem rset_any (nm : ByteArray) (t : Tn) (a : Option Addr) (c : Nat) (w : World) (hT : TmAt w t.1 a c t.2) :
    Calls Try.prog 27 #[.string nm, .agg #[.string t.1.1, .int .i64 t.1.2, .slice a (lenF t.2) c]] w fun e w' => ∃ a' c', e = .returned (.agg (wayC 3 nm t.1 a' (lenF t.2) c' none 0 0 0)) ∧ OwnTm false (fun q => w.heap.size ≤ q) w' t.1 a' c' t.2 ∧ Below w.heap.size w w' := by
  obtain ⟨⟨xn, xs⟩, l⟩ := t
  dsimp only at *
  obtain ⟨b1, b2, hb0⟩ := two_new w #[.string xn, .int .i64 xs, .slice a (lenF l) c] 26 zWay 36
  have HC := hid fun (W : World) (hW : Below w.heap.size w W) => rclone_any (xn, xs) l a c W (hT.below hW)
  have HX := hid b1; have HY := hid b2; have HB0 := hid hb0
  have hz0 : Hid (w.heap.size + 2 ≤ ((w.alloc (.cells #[.string xn, .int .i64 xs, .slice a (lenF l) c] 26)).alloc (.cells zWay 36)).heap.size) := hid (by simp)
  clear hT b1 b2 hb0
  go_enter Try.func27, Try.ntmps27
  go_wp2_with (go_at_call 29; refine (HC.out _ HB0.out).mono ?_; rintro e w1 ⟨a', c', rfl, hr1, hb1⟩; have HR1 := hid hr1; have HB1 := hid (HB0.out.trans (hb1.mono HB0.out.size)); have Y1 := HY.out.below hb1; have HY1 := hid Y1; have r0 := Y1.c 0; have r1 := Y1.c 1; have r2 := Y1.c 2; have r3 := Y1.c 3; have r4 := Y1.c 4; have r5 := Y1.c 5; have r6 := Y1.c 6; have g0 := Y1.f 0; have g1 := Y1.f 1; have g2 := Y1.f 2; have g3 := Y1.f 3; have g4 := Y1.f 4; have g5 := Y1.f 5; have g6 := Y1.f 6; clear hr1 hb1 Y1)
  refine bodyPost_ret (results_cell_row rfl _ _ (w.heap.size + 1) 36 (wayC 3 nm (xn, xs) a' (lenF l) c' none 0 0 0) (0, 0) _ rfl (box7_all HY1.out _ _ _ _ _ _ _) Try.underlying36 rfl Try.size36) rfl ?_
  exact ⟨a', c', rfl, ((HR1.out.keep (fun q hq _ => sets7_far (by have := hz0.out; omega) _ _ _ _ _ _ _)).own).mono (fun q _ hq => by have := hz0.out; omega), sets7_below HB1.out (by omega) _ _ _ _ _ _ _⟩

theorem act_at (w : World) (k sym : Int) : WyAt w (.agg (wayC k noS (noS, 0) none 0 0 none 0 0 sym)) ⟨k, noS, zT, [], sym⟩ :=
  ⟨none, 0, [], none, 0, rfl, zT_at w, rfl, fun _ h => by simp at h, .inl rfl, Nat.zero_le _⟩
theorem set_at {w : World} {nm : ByteArray} {t : Tn} {a : Option Addr} {c : Nat} (h : TmAt w t.1 a c t.2) : WyAt w (.agg (wayC 3 nm t.1 a (lenF t.2) c none 0 0 0)) (setW nm t) :=
  ⟨a, c, [], none, 0, rfl, h, rfl, fun _ h => by simp at h, .inl rfl, Nat.zero_le _⟩

set_option maxRecDepth 100000 in
set_option maxHeartbeats 4000000 in
theorem rone_same (S : Option Addr) (n cap : Nat) (xn : ByteArray) (xs : Int) (l : Fo) (yn : ByteArray) (ys : Int) (m : Fo) (a b : Option Addr) (c d : Nat) (w : World) (hS : TmAt w (xn, xs) a c l) (hT : TmAt w (yn, ys) b d m)
    (hc0 : (cmpN ((xn, xs), l) ((yn, ys), m) == 0) = true) :
    Calls Try.prog 12 #[.slice S n cap, .agg #[.string xn, .int .i64 xs, .slice a (lenF l) c, .string yn, .int .i64 ys, .slice b (lenF m) d]] w fun e w' => (∃ v, e = .returned v ∧ WyAt w' v (actW 1)) ∧ Below w.heap.size w w' := by
  obtain ⟨b2, b3, b4, hb0⟩ := four_new w #[.string xn, .int .i64 xs, .slice a (lenF l) c, .string yn, .int .i64 ys, .slice b (lenF m) d] 28 zWay 36 #[.string xn, .int .i64 xs, .slice a (lenF l) c] 26 #[.string yn, .int .i64 ys, .slice b (lenF m) d] 26
  have H26 := hid fun (W : World) (hW : Below w.heap.size w W) => rsame_any ((xn, xs), l) ((yn, ys), m) a b c d W (hS.below hW) (hT.below hW)
  have HY := hid b2; have HL := hid b3; have HR := hid b4; have HB0 := hid hb0
  have hz0 : Hid (w.heap.size + 4 ≤ ((((w.alloc (.cells #[.string xn, .int .i64 xs, .slice a (lenF l) c, .string yn, .int .i64 ys, .slice b (lenF m) d] 28)).alloc (.cells zWay 36)).alloc (.cells #[.string xn, .int .i64 xs, .slice a (lenF l) c] 26)).alloc (.cells #[.string yn, .int .i64 ys, .slice b (lenF m) d] 26)).heap.size) := hid (by simp)

  rw [hc0] at H26
  clear hS hT b2 b3 b4 hb0 hc0
  dsimp only at *
  go_enter Try.func12, Try.ntmps12
  go_wp2_with (first
      | (go_at_call 26; refine (H26.out _ HB0.out).mono ?_; rintro e w1 ⟨rfl, hb1⟩; have HB1 := hid (HB0.out.trans (hb1.mono HB0.out.size)); have Y1 := HY.out.below hb1; have HY1 := hid Y1; have L1 := HL.out.below hb1; have R1 := HR.out.below hb1; have HL1 := hid L1; have HR1 := hid R1; have l0 := L1.c 0; have l1 := L1.c 1; have l2 := L1.c 2; have q0 := R1.c 0; have q1 := R1.c 1; have q2 := R1.c 2; have HZ1 : Hid (w.heap.size + 4 ≤ w1.heap.size) := hid (by have := hb1.size; have := hz0.out; omega); have r0 := Y1.c 0; have r1 := Y1.c 1; have r2 := Y1.c 2; have r3 := Y1.c 3; have r4 := Y1.c 4; have r5 := Y1.c 5; have r6 := Y1.c 6; have g0 := Y1.f 0; have g1 := Y1.f 1; have g2 := Y1.f 2; have g3 := Y1.f 3; have g4 := Y1.f 4; have g5 := Y1.f 5; have g6 := Y1.f 6; clear hb1 Y1 L1 R1))
  refine bodyPost_ret (results_cell_row rfl _ _ (w.heap.size + 1) 36 (wayC 1 noS (noS, 0) none 0 0 none 0 0 0) (0, 0) _ rfl (box7_all HY1.out _ _ _ _ _ _ _) Try.underlying36 rfl Try.size36) rfl ?_
  exact ⟨⟨_, rfl, act_at _ _ _⟩, sets7_below HB1.out (by omega) _ _ _ _ _ _ _⟩
set_option maxRecDepth 100000 in
set_option maxHeartbeats 4000000 in
theorem rone_syms (S : Option Addr) (n cap : Nat) (xn : ByteArray) (xs : Int) (l : Fo) (yn : ByteArray) (ys : Int) (m : Fo) (a b : Option Addr) (c d : Nat) (w : World) (hS : TmAt w (xn, xs) a c l) (hT : TmAt w (yn, ys) b d m)
    (hc0 : (cmpN ((xn, xs), l) ((yn, ys), m) == 0) = false) (hx : noName xn = true) (hy : noName yn = true) (hne : (xs != ys) = true) :
    Calls Try.prog 12 #[.slice S n cap, .agg #[.string xn, .int .i64 xs, .slice a (lenF l) c, .string yn, .int .i64 ys, .slice b (lenF m) d]] w fun e w' => (∃ v, e = .returned v ∧ WyAt w' v (actW 2)) ∧ Below w.heap.size w w' := by
  obtain ⟨b2, b3, b4, hb0⟩ := four_new w #[.string xn, .int .i64 xs, .slice a (lenF l) c, .string yn, .int .i64 ys, .slice b (lenF m) d] 28 zWay 36 #[.string xn, .int .i64 xs, .slice a (lenF l) c] 26 #[.string yn, .int .i64 ys, .slice b (lenF m) d] 26
  have H26 := hid fun (W : World) (hW : Below w.heap.size w W) => rsame_any ((xn, xs), l) ((yn, ys), m) a b c d W (hS.below hW) (hT.below hW)
  have HY := hid b2; have HL := hid b3; have HR := hid b4; have HB0 := hid hb0
  have hz0 : Hid (w.heap.size + 4 ≤ ((((w.alloc (.cells #[.string xn, .int .i64 xs, .slice a (lenF l) c, .string yn, .int .i64 ys, .slice b (lenF m) d] 28)).alloc (.cells zWay 36)).alloc (.cells #[.string xn, .int .i64 xs, .slice a (lenF l) c] 26)).alloc (.cells #[.string yn, .int .i64 ys, .slice b (lenF m) d] 26)).heap.size) := hid (by simp)
  unfold noName at hx hy
  rw [hc0] at H26
  clear hS hT b2 b3 b4 hb0 hc0
  dsimp only at *
  go_enter Try.func12, Try.ntmps12
  go_wp2_with (first
      | (go_at_call 26; refine (H26.out _ HB0.out).mono ?_; rintro e w1 ⟨rfl, hb1⟩; have HB1 := hid (HB0.out.trans (hb1.mono HB0.out.size)); have Y1 := HY.out.below hb1; have HY1 := hid Y1; have L1 := HL.out.below hb1; have R1 := HR.out.below hb1; have HL1 := hid L1; have HR1 := hid R1; have l0 := L1.c 0; have l1 := L1.c 1; have l2 := L1.c 2; have q0 := R1.c 0; have q1 := R1.c 1; have q2 := R1.c 2; have HZ1 : Hid (w.heap.size + 4 ≤ w1.heap.size) := hid (by have := hb1.size; have := hz0.out; omega); have r0 := Y1.c 0; have r1 := Y1.c 1; have r2 := Y1.c 2; have r3 := Y1.c 3; have r4 := Y1.c 4; have r5 := Y1.c 5; have r6 := Y1.c 6; have g0 := Y1.f 0; have g1 := Y1.f 1; have g2 := Y1.f 2; have g3 := Y1.f 3; have g4 := Y1.f 4; have g5 := Y1.f 5; have g6 := Y1.f 6; clear hb1 Y1 L1 R1))
  refine bodyPost_ret (results_cell_row rfl _ _ (w.heap.size + 1) 36 (wayC 2 noS (noS, 0) none 0 0 none 0 0 0) (0, 0) _ rfl (box7_all HY1.out _ _ _ _ _ _ _) Try.underlying36 rfl Try.size36) rfl ?_
  exact ⟨⟨_, rfl, act_at _ _ _⟩, sets7_below HB1.out (by omega) _ _ _ _ _ _ _⟩
set_option maxRecDepth 100000 in
set_option maxHeartbeats 4000000 in
theorem rone_gt (S : Option Addr) (n cap : Nat) (xn : ByteArray) (xs : Int) (l : Fo) (yn : ByteArray) (ys : Int) (m : Fo) (a b : Option Addr) (c d : Nat) (w : World) (hS : TmAt w (xn, xs) a c l) (hT : TmAt w (yn, ys) b d m)
    (hc0 : (cmpN ((xn, xs), l) ((yn, ys), m) == 0) = false) (hx : noName xn = false) (hy : noName yn = false) (h1 : Op.bytesLess xn.toList yn.toList = false) (h2 : (xn.toList == yn.toList) = false) :
    Calls Try.prog 12 #[.slice S n cap, .agg #[.string xn, .int .i64 xs, .slice a (lenF l) c, .string yn, .int .i64 ys, .slice b (lenF m) d]] w fun e w' => (∃ v, e = .returned v ∧ WyAt w' v (setW xn ((yn, ys), m))) ∧ Below w.heap.size w w' := by
  obtain ⟨b2, b3, b4, hb0⟩ := four_new w #[.string xn, .int .i64 xs, .slice a (lenF l) c, .string yn, .int .i64 ys, .slice b (lenF m) d] 28 zWay 36 #[.string xn, .int .i64 xs, .slice a (lenF l) c] 26 #[.string yn, .int .i64 ys, .slice b (lenF m) d] 26
  have H26 := hid fun (W : World) (hW : Below w.heap.size w W) => rsame_any ((xn, xs), l) ((yn, ys), m) a b c d W (hS.below hW) (hT.below hW)
  have HY := hid b2; have HL := hid b3; have HR := hid b4; have HB0 := hid hb0
  have hz0 : Hid (w.heap.size + 4 ≤ ((((w.alloc (.cells #[.string xn, .int .i64 xs, .slice a (lenF l) c, .string yn, .int .i64 ys, .slice b (lenF m) d] 28)).alloc (.cells zWay 36)).alloc (.cells #[.string xn, .int .i64 xs, .slice a (lenF l) c] 26)).alloc (.cells #[.string yn, .int .i64 ys, .slice b (lenF m) d] 26)).heap.size) := hid (by simp)
  have H27 := hid fun (W : World) (hW : Below w.heap.size w W) => rset_any xn ((yn, ys), m) b d W (hT.below hW)
  unfold noName at hx hy
  rw [hc0] at H26
  clear hS hT b2 b3 b4 hb0 hc0
  dsimp only at *
  go_enter Try.func12, Try.ntmps12
  go_wp2_with (first
      | (go_at_call 26; refine (H26.out _ HB0.out).mono ?_; rintro e w1 ⟨rfl, hb1⟩; have HB1 := hid (HB0.out.trans (hb1.mono HB0.out.size)); have Y1 := HY.out.below hb1; have HY1 := hid Y1; have L1 := HL.out.below hb1; have R1 := HR.out.below hb1; have HL1 := hid L1; have HR1 := hid R1; have l0 := L1.c 0; have l1 := L1.c 1; have l2 := L1.c 2; have q0 := R1.c 0; have q1 := R1.c 1; have q2 := R1.c 2; have HZ1 : Hid (w.heap.size + 4 ≤ w1.heap.size) := hid (by have := hb1.size; have := hz0.out; omega); clear hb1 Y1 L1 R1)
      | (go_at_call 27; refine (H27.out _ HB1.out).mono ?_; rintro e w2 ⟨a', c', rfl, ht, hb⟩; have HT2 := hid ht; have HB2 := hid (HB1.out.trans (hb.mono HB1.out.size)); have Y2 := HY1.out.below hb; have HY2 := hid Y2; have r0 := Y2.c 0; have r1 := Y2.c 1; have r2 := Y2.c 2; have r3 := Y2.c 3; have r4 := Y2.c 4; have r5 := Y2.c 5; have r6 := Y2.c 6; have g0 := Y2.f 0; have g1 := Y2.f 1; have g2 := Y2.f 2; have g3 := Y2.f 3; have g4 := Y2.f 4; have g5 := Y2.f 5; have g6 := Y2.f 6; clear ht hb Y2; unfold wayC))
  refine bodyPost_ret (results_cell_row rfl _ _ (w.heap.size + 1) 36 (wayC 3 xn (yn, ys) a' (lenF m) c' none 0 0 0) (0, 0) _ rfl (box7_all HY2.out _ _ _ _ _ _ _) Try.underlying36 rfl Try.size36) rfl ?_
  exact ⟨⟨_, rfl, set_at (t := ((yn, ys), m)) (HT2.out.keep (fun q hq _ => sets7_far (by have := HZ1.out; omega) _ _ _ _ _ _ _)).tm⟩, sets7_below HB2.out (by omega) _ _ _ _ _ _ _⟩
set_option maxRecDepth 100000 in
set_option maxHeartbeats 4000000 in
theorem rone_le (S : Option Addr) (n cap : Nat) (xn : ByteArray) (xs : Int) (l : Fo) (yn : ByteArray) (ys : Int) (m : Fo) (a b : Option Addr) (c d : Nat) (w : World) (hS : TmAt w (xn, xs) a c l) (hT : TmAt w (yn, ys) b d m)
    (hc0 : (cmpN ((xn, xs), l) ((yn, ys), m) == 0) = false) (hx : noName xn = false) (hy : noName yn = false) (h1 : Op.bytesLess xn.toList yn.toList = true) :
    Calls Try.prog 12 #[.slice S n cap, .agg #[.string xn, .int .i64 xs, .slice a (lenF l) c, .string yn, .int .i64 ys, .slice b (lenF m) d]] w fun e w' => (∃ v, e = .returned v ∧ WyAt w' v (setW yn ((xn, xs), l))) ∧ Below w.heap.size w w' := by
  obtain ⟨b2, b3, b4, hb0⟩ := four_new w #[.string xn, .int .i64 xs, .slice a (lenF l) c, .string yn, .int .i64 ys, .slice b (lenF m) d] 28 zWay 36 #[.string xn, .int .i64 xs, .slice a (lenF l) c] 26 #[.string yn, .int .i64 ys, .slice b (lenF m) d] 26
  have H26 := hid fun (W : World) (hW : Below w.heap.size w W) => rsame_any ((xn, xs), l) ((yn, ys), m) a b c d W (hS.below hW) (hT.below hW)
  have HY := hid b2; have HL := hid b3; have HR := hid b4; have HB0 := hid hb0
  have hz0 : Hid (w.heap.size + 4 ≤ ((((w.alloc (.cells #[.string xn, .int .i64 xs, .slice a (lenF l) c, .string yn, .int .i64 ys, .slice b (lenF m) d] 28)).alloc (.cells zWay 36)).alloc (.cells #[.string xn, .int .i64 xs, .slice a (lenF l) c] 26)).alloc (.cells #[.string yn, .int .i64 ys, .slice b (lenF m) d] 26)).heap.size) := hid (by simp)
  have H27 := hid fun (W : World) (hW : Below w.heap.size w W) => rset_any yn ((xn, xs), l) a c W (hS.below hW)
  unfold noName at hx hy
  rw [hc0] at H26
  clear hS hT b2 b3 b4 hb0 hc0
  dsimp only at *
  go_enter Try.func12, Try.ntmps12
  go_wp2_with (first
      | (go_at_call 26; refine (H26.out _ HB0.out).mono ?_; rintro e w1 ⟨rfl, hb1⟩; have HB1 := hid (HB0.out.trans (hb1.mono HB0.out.size)); have Y1 := HY.out.below hb1; have HY1 := hid Y1; have L1 := HL.out.below hb1; have R1 := HR.out.below hb1; have HL1 := hid L1; have HR1 := hid R1; have l0 := L1.c 0; have l1 := L1.c 1; have l2 := L1.c 2; have q0 := R1.c 0; have q1 := R1.c 1; have q2 := R1.c 2; have HZ1 : Hid (w.heap.size + 4 ≤ w1.heap.size) := hid (by have := hb1.size; have := hz0.out; omega); clear hb1 Y1 L1 R1)
      | (go_at_call 27; refine (H27.out _ HB1.out).mono ?_; rintro e w2 ⟨a', c', rfl, ht, hb⟩; have HT2 := hid ht; have HB2 := hid (HB1.out.trans (hb.mono HB1.out.size)); have Y2 := HY1.out.below hb; have HY2 := hid Y2; have r0 := Y2.c 0; have r1 := Y2.c 1; have r2 := Y2.c 2; have r3 := Y2.c 3; have r4 := Y2.c 4; have r5 := Y2.c 5; have r6 := Y2.c 6; have g0 := Y2.f 0; have g1 := Y2.f 1; have g2 := Y2.f 2; have g3 := Y2.f 3; have g4 := Y2.f 4; have g5 := Y2.f 5; have g6 := Y2.f 6; clear ht hb Y2; unfold wayC))
  refine bodyPost_ret (results_cell_row rfl _ _ (w.heap.size + 1) 36 (wayC 3 yn (xn, xs) a' (lenF l) c' none 0 0 0) (0, 0) _ rfl (box7_all HY2.out _ _ _ _ _ _ _) Try.underlying36 rfl Try.size36) rfl ?_
  exact ⟨⟨_, rfl, set_at (t := ((xn, xs), l)) (HT2.out.keep (fun q hq _ => sets7_far (by have := HZ1.out; omega) _ _ _ _ _ _ _)).tm⟩, sets7_below HB2.out (by omega) _ _ _ _ _ _ _⟩
set_option maxRecDepth 100000 in
set_option maxHeartbeats 4000000 in
theorem rone_lhas (S : Option Addr) (n cap : Nat) (xn : ByteArray) (xs : Int) (l : Fo) (yn : ByteArray) (ys : Int) (m : Fo) (a b : Option Addr) (c d : Nat) (w : World) (hS : TmAt w (xn, xs) a c l) (hT : TmAt w (yn, ys) b d m)
    (hc0 : (cmpN ((xn, xs), l) ((yn, ys), m) == 0) = false) (hx : noName xn = false) (hy : noName yn = true) (hh : hasR xn (yn, ys) m = true) :
    Calls Try.prog 12 #[.slice S n cap, .agg #[.string xn, .int .i64 xs, .slice a (lenF l) c, .string yn, .int .i64 ys, .slice b (lenF m) d]] w fun e w' => (∃ v, e = .returned v ∧ WyAt w' v (actW 2)) ∧ Below w.heap.size w w' := by
  obtain ⟨b2, b3, b4, hb0⟩ := four_new w #[.string xn, .int .i64 xs, .slice a (lenF l) c, .string yn, .int .i64 ys, .slice b (lenF m) d] 28 zWay 36 #[.string xn, .int .i64 xs, .slice a (lenF l) c] 26 #[.string yn, .int .i64 ys, .slice b (lenF m) d] 26
  have H26 := hid fun (W : World) (hW : Below w.heap.size w W) => rsame_any ((xn, xs), l) ((yn, ys), m) a b c d W (hS.below hW) (hT.below hW)
  have HY := hid b2; have HL := hid b3; have HR := hid b4; have HB0 := hid hb0
  have hz0 : Hid (w.heap.size + 4 ≤ ((((w.alloc (.cells #[.string xn, .int .i64 xs, .slice a (lenF l) c, .string yn, .int .i64 ys, .slice b (lenF m) d] 28)).alloc (.cells zWay 36)).alloc (.cells #[.string xn, .int .i64 xs, .slice a (lenF l) c] 26)).alloc (.cells #[.string yn, .int .i64 ys, .slice b (lenF m) d] 26)).heap.size) := hid (by simp)
  have H28 := hid fun (W : World) (hW : Below w.heap.size w W) => rhas_all _ xn (yn, ys) m b d W (Nat.le_refl _) (hT.below hW)
  rw [hh] at H28
  unfold noName at hx hy
  rw [hc0] at H26
  clear hS hT b2 b3 b4 hb0 hc0
  dsimp only at *
  go_enter Try.func12, Try.ntmps12
  go_wp2_with (first
      | (go_at_call 26; refine (H26.out _ HB0.out).mono ?_; rintro e w1 ⟨rfl, hb1⟩; have HB1 := hid (HB0.out.trans (hb1.mono HB0.out.size)); have Y1 := HY.out.below hb1; have HY1 := hid Y1; have L1 := HL.out.below hb1; have R1 := HR.out.below hb1; have HL1 := hid L1; have HR1 := hid R1; have l0 := L1.c 0; have l1 := L1.c 1; have l2 := L1.c 2; have q0 := R1.c 0; have q1 := R1.c 1; have q2 := R1.c 2; have HZ1 : Hid (w.heap.size + 4 ≤ w1.heap.size) := hid (by have := hb1.size; have := hz0.out; omega); clear hb1 Y1 L1 R1)
      | (go_at_call 28; refine (H28.out _ HB1.out).mono ?_; rintro e w2 ⟨rfl, hb2⟩; have HB2 := hid (HB1.out.trans (hb2.mono HB1.out.size)); have Y2 := HY1.out.below hb2; have HY2 := hid Y2; have L2 := HL1.out.below hb2; have R2 := HR1.out.below hb2; have m0 := L2.c 0; have m1 := L2.c 1; have m2 := L2.c 2; have p0 := R2.c 0; have p1 := R2.c 1; have p2 := R2.c 2; have HZ2 : Hid (w.heap.size + 4 ≤ w2.heap.size) := hid (by have := hb2.size; have := HZ1.out; omega); have r0 := Y2.c 0; have r1 := Y2.c 1; have r2 := Y2.c 2; have r3 := Y2.c 3; have r4 := Y2.c 4; have r5 := Y2.c 5; have r6 := Y2.c 6; have g0 := Y2.f 0; have g1 := Y2.f 1; have g2 := Y2.f 2; have g3 := Y2.f 3; have g4 := Y2.f 4; have g5 := Y2.f 5; have g6 := Y2.f 6; clear hb2 Y2 L2 R2))
  refine bodyPost_ret (results_cell_row rfl _ _ (w.heap.size + 1) 36 (wayC 2 noS (noS, 0) none 0 0 none 0 0 0) (0, 0) _ rfl (box7_all HY2.out _ _ _ _ _ _ _) Try.underlying36 rfl Try.size36) rfl ?_
  exact ⟨⟨_, rfl, act_at _ _ _⟩, sets7_below HB2.out (by omega) _ _ _ _ _ _ _⟩
set_option maxRecDepth 100000 in
set_option maxHeartbeats 4000000 in
theorem rone_lset (S : Option Addr) (n cap : Nat) (xn : ByteArray) (xs : Int) (l : Fo) (yn : ByteArray) (ys : Int) (m : Fo) (a b : Option Addr) (c d : Nat) (w : World) (hS : TmAt w (xn, xs) a c l) (hT : TmAt w (yn, ys) b d m)
    (hc0 : (cmpN ((xn, xs), l) ((yn, ys), m) == 0) = false) (hx : noName xn = false) (hy : noName yn = true) (hh : hasR xn (yn, ys) m = false) :
    Calls Try.prog 12 #[.slice S n cap, .agg #[.string xn, .int .i64 xs, .slice a (lenF l) c, .string yn, .int .i64 ys, .slice b (lenF m) d]] w fun e w' => (∃ v, e = .returned v ∧ WyAt w' v (setW xn ((yn, ys), m))) ∧ Below w.heap.size w w' := by
  obtain ⟨b2, b3, b4, hb0⟩ := four_new w #[.string xn, .int .i64 xs, .slice a (lenF l) c, .string yn, .int .i64 ys, .slice b (lenF m) d] 28 zWay 36 #[.string xn, .int .i64 xs, .slice a (lenF l) c] 26 #[.string yn, .int .i64 ys, .slice b (lenF m) d] 26
  have H26 := hid fun (W : World) (hW : Below w.heap.size w W) => rsame_any ((xn, xs), l) ((yn, ys), m) a b c d W (hS.below hW) (hT.below hW)
  have HY := hid b2; have HL := hid b3; have HR := hid b4; have HB0 := hid hb0
  have hz0 : Hid (w.heap.size + 4 ≤ ((((w.alloc (.cells #[.string xn, .int .i64 xs, .slice a (lenF l) c, .string yn, .int .i64 ys, .slice b (lenF m) d] 28)).alloc (.cells zWay 36)).alloc (.cells #[.string xn, .int .i64 xs, .slice a (lenF l) c] 26)).alloc (.cells #[.string yn, .int .i64 ys, .slice b (lenF m) d] 26)).heap.size) := hid (by simp)
  have H27 := hid fun (W : World) (hW : Below w.heap.size w W) => rset_any xn ((yn, ys), m) b d W (hT.below hW)
  have H28 := hid fun (W : World) (hW : Below w.heap.size w W) => rhas_all _ xn (yn, ys) m b d W (Nat.le_refl _) (hT.below hW)
  rw [hh] at H28
  unfold noName at hx hy
  rw [hc0] at H26
  clear hS hT b2 b3 b4 hb0 hc0
  dsimp only at *
  go_enter Try.func12, Try.ntmps12
  go_wp2_with (first
      | (go_at_call 26; refine (H26.out _ HB0.out).mono ?_; rintro e w1 ⟨rfl, hb1⟩; have HB1 := hid (HB0.out.trans (hb1.mono HB0.out.size)); have Y1 := HY.out.below hb1; have HY1 := hid Y1; have L1 := HL.out.below hb1; have R1 := HR.out.below hb1; have HL1 := hid L1; have HR1 := hid R1; have l0 := L1.c 0; have l1 := L1.c 1; have l2 := L1.c 2; have q0 := R1.c 0; have q1 := R1.c 1; have q2 := R1.c 2; have HZ1 : Hid (w.heap.size + 4 ≤ w1.heap.size) := hid (by have := hb1.size; have := hz0.out; omega); clear hb1 Y1 L1 R1)
      | (go_at_call 28; refine (H28.out _ HB1.out).mono ?_; rintro e w2 ⟨rfl, hb2⟩; have HB2 := hid (HB1.out.trans (hb2.mono HB1.out.size)); have Y2 := HY1.out.below hb2; have HY2 := hid Y2; have L2 := HL1.out.below hb2; have R2 := HR1.out.below hb2; have m0 := L2.c 0; have m1 := L2.c 1; have m2 := L2.c 2; have p0 := R2.c 0; have p1 := R2.c 1; have p2 := R2.c 2; have HZ2 : Hid (w.heap.size + 4 ≤ w2.heap.size) := hid (by have := hb2.size; have := HZ1.out; omega); clear hb2 Y2 L2 R2)
      | (go_at_call 27; refine (H27.out _ HB2.out).mono ?_; rintro e w3 ⟨a', c', rfl, ht, hb⟩; have HT3 := hid ht; have HB3 := hid (HB2.out.trans (hb.mono HB2.out.size)); have Y3 := HY2.out.below hb; have HY3 := hid Y3; have r0 := Y3.c 0; have r1 := Y3.c 1; have r2 := Y3.c 2; have r3 := Y3.c 3; have r4 := Y3.c 4; have r5 := Y3.c 5; have r6 := Y3.c 6; have g0 := Y3.f 0; have g1 := Y3.f 1; have g2 := Y3.f 2; have g3 := Y3.f 3; have g4 := Y3.f 4; have g5 := Y3.f 5; have g6 := Y3.f 6; clear ht hb Y3; unfold wayC))
  refine bodyPost_ret (results_cell_row rfl _ _ (w.heap.size + 1) 36 (wayC 3 xn (yn, ys) a' (lenF m) c' none 0 0 0) (0, 0) _ rfl (box7_all HY3.out _ _ _ _ _ _ _) Try.underlying36 rfl Try.size36) rfl ?_
  exact ⟨⟨_, rfl, set_at (t := ((yn, ys), m)) (HT3.out.keep (fun q hq _ => sets7_far (by have := HZ2.out; omega) _ _ _ _ _ _ _)).tm⟩, sets7_below HB3.out (by omega) _ _ _ _ _ _ _⟩
set_option maxRecDepth 100000 in
set_option maxHeartbeats 4000000 in
theorem rone_rhas (S : Option Addr) (n cap : Nat) (xn : ByteArray) (xs : Int) (l : Fo) (yn : ByteArray) (ys : Int) (m : Fo) (a b : Option Addr) (c d : Nat) (w : World) (hS : TmAt w (xn, xs) a c l) (hT : TmAt w (yn, ys) b d m)
    (hc0 : (cmpN ((xn, xs), l) ((yn, ys), m) == 0) = false) (hx : noName xn = true) (hy : noName yn = false) (hh : hasR yn (xn, xs) l = true) :
    Calls Try.prog 12 #[.slice S n cap, .agg #[.string xn, .int .i64 xs, .slice a (lenF l) c, .string yn, .int .i64 ys, .slice b (lenF m) d]] w fun e w' => (∃ v, e = .returned v ∧ WyAt w' v (actW 2)) ∧ Below w.heap.size w w' := by
  obtain ⟨b2, b3, b4, hb0⟩ := four_new w #[.string xn, .int .i64 xs, .slice a (lenF l) c, .string yn, .int .i64 ys, .slice b (lenF m) d] 28 zWay 36 #[.string xn, .int .i64 xs, .slice a (lenF l) c] 26 #[.string yn, .int .i64 ys, .slice b (lenF m) d] 26
  have H26 := hid fun (W : World) (hW : Below w.heap.size w W) => rsame_any ((xn, xs), l) ((yn, ys), m) a b c d W (hS.below hW) (hT.below hW)
  have HY := hid b2; have HL := hid b3; have HR := hid b4; have HB0 := hid hb0
  have hz0 : Hid (w.heap.size + 4 ≤ ((((w.alloc (.cells #[.string xn, .int .i64 xs, .slice a (lenF l) c, .string yn, .int .i64 ys, .slice b (lenF m) d] 28)).alloc (.cells zWay 36)).alloc (.cells #[.string xn, .int .i64 xs, .slice a (lenF l) c] 26)).alloc (.cells #[.string yn, .int .i64 ys, .slice b (lenF m) d] 26)).heap.size) := hid (by simp)
  have H28 := hid fun (W : World) (hW : Below w.heap.size w W) => rhas_all _ yn (xn, xs) l a c W (Nat.le_refl _) (hS.below hW)
  rw [hh] at H28
  unfold noName at hx hy
  rw [hc0] at H26
  clear hS hT b2 b3 b4 hb0 hc0
  dsimp only at *
  go_enter Try.func12, Try.ntmps12
  go_wp2_with (first
      | (go_at_call 26; refine (H26.out _ HB0.out).mono ?_; rintro e w1 ⟨rfl, hb1⟩; have HB1 := hid (HB0.out.trans (hb1.mono HB0.out.size)); have Y1 := HY.out.below hb1; have HY1 := hid Y1; have L1 := HL.out.below hb1; have R1 := HR.out.below hb1; have HL1 := hid L1; have HR1 := hid R1; have l0 := L1.c 0; have l1 := L1.c 1; have l2 := L1.c 2; have q0 := R1.c 0; have q1 := R1.c 1; have q2 := R1.c 2; have HZ1 : Hid (w.heap.size + 4 ≤ w1.heap.size) := hid (by have := hb1.size; have := hz0.out; omega); clear hb1 Y1 L1 R1)
      | (go_at_call 28; refine (H28.out _ HB1.out).mono ?_; rintro e w2 ⟨rfl, hb2⟩; have HB2 := hid (HB1.out.trans (hb2.mono HB1.out.size)); have Y2 := HY1.out.below hb2; have HY2 := hid Y2; have L2 := HL1.out.below hb2; have R2 := HR1.out.below hb2; have m0 := L2.c 0; have m1 := L2.c 1; have m2 := L2.c 2; have p0 := R2.c 0; have p1 := R2.c 1; have p2 := R2.c 2; have HZ2 : Hid (w.heap.size + 4 ≤ w2.heap.size) := hid (by have := hb2.size; have := HZ1.out; omega); have r0 := Y2.c 0; have r1 := Y2.c 1; have r2 := Y2.c 2; have r3 := Y2.c 3; have r4 := Y2.c 4; have r5 := Y2.c 5; have r6 := Y2.c 6; have g0 := Y2.f 0; have g1 := Y2.f 1; have g2 := Y2.f 2; have g3 := Y2.f 3; have g4 := Y2.f 4; have g5 := Y2.f 5; have g6 := Y2.f 6; clear hb2 Y2 L2 R2))
  refine bodyPost_ret (results_cell_row rfl _ _ (w.heap.size + 1) 36 (wayC 2 noS (noS, 0) none 0 0 none 0 0 0) (0, 0) _ rfl (box7_all HY2.out _ _ _ _ _ _ _) Try.underlying36 rfl Try.size36) rfl ?_
  exact ⟨⟨_, rfl, act_at _ _ _⟩, sets7_below HB2.out (by omega) _ _ _ _ _ _ _⟩
set_option maxRecDepth 100000 in
set_option maxHeartbeats 4000000 in
theorem rone_rset (S : Option Addr) (n cap : Nat) (xn : ByteArray) (xs : Int) (l : Fo) (yn : ByteArray) (ys : Int) (m : Fo) (a b : Option Addr) (c d : Nat) (w : World) (hS : TmAt w (xn, xs) a c l) (hT : TmAt w (yn, ys) b d m)
    (hc0 : (cmpN ((xn, xs), l) ((yn, ys), m) == 0) = false) (hx : noName xn = true) (hy : noName yn = false) (hh : hasR yn (xn, xs) l = false) :
    Calls Try.prog 12 #[.slice S n cap, .agg #[.string xn, .int .i64 xs, .slice a (lenF l) c, .string yn, .int .i64 ys, .slice b (lenF m) d]] w fun e w' => (∃ v, e = .returned v ∧ WyAt w' v (setW yn ((xn, xs), l))) ∧ Below w.heap.size w w' := by
  obtain ⟨b2, b3, b4, hb0⟩ := four_new w #[.string xn, .int .i64 xs, .slice a (lenF l) c, .string yn, .int .i64 ys, .slice b (lenF m) d] 28 zWay 36 #[.string xn, .int .i64 xs, .slice a (lenF l) c] 26 #[.string yn, .int .i64 ys, .slice b (lenF m) d] 26
  have H26 := hid fun (W : World) (hW : Below w.heap.size w W) => rsame_any ((xn, xs), l) ((yn, ys), m) a b c d W (hS.below hW) (hT.below hW)
  have HY := hid b2; have HL := hid b3; have HR := hid b4; have HB0 := hid hb0
  have hz0 : Hid (w.heap.size + 4 ≤ ((((w.alloc (.cells #[.string xn, .int .i64 xs, .slice a (lenF l) c, .string yn, .int .i64 ys, .slice b (lenF m) d] 28)).alloc (.cells zWay 36)).alloc (.cells #[.string xn, .int .i64 xs, .slice a (lenF l) c] 26)).alloc (.cells #[.string yn, .int .i64 ys, .slice b (lenF m) d] 26)).heap.size) := hid (by simp)
  have H27 := hid fun (W : World) (hW : Below w.heap.size w W) => rset_any yn ((xn, xs), l) a c W (hS.below hW)
  have H28 := hid fun (W : World) (hW : Below w.heap.size w W) => rhas_all _ yn (xn, xs) l a c W (Nat.le_refl _) (hS.below hW)
  rw [hh] at H28
  unfold noName at hx hy
  rw [hc0] at H26
  clear hS hT b2 b3 b4 hb0 hc0
  dsimp only at *
  go_enter Try.func12, Try.ntmps12
  go_wp2_with (first
      | (go_at_call 26; refine (H26.out _ HB0.out).mono ?_; rintro e w1 ⟨rfl, hb1⟩; have HB1 := hid (HB0.out.trans (hb1.mono HB0.out.size)); have Y1 := HY.out.below hb1; have HY1 := hid Y1; have L1 := HL.out.below hb1; have R1 := HR.out.below hb1; have HL1 := hid L1; have HR1 := hid R1; have l0 := L1.c 0; have l1 := L1.c 1; have l2 := L1.c 2; have q0 := R1.c 0; have q1 := R1.c 1; have q2 := R1.c 2; have HZ1 : Hid (w.heap.size + 4 ≤ w1.heap.size) := hid (by have := hb1.size; have := hz0.out; omega); clear hb1 Y1 L1 R1)
      | (go_at_call 28; refine (H28.out _ HB1.out).mono ?_; rintro e w2 ⟨rfl, hb2⟩; have HB2 := hid (HB1.out.trans (hb2.mono HB1.out.size)); have Y2 := HY1.out.below hb2; have HY2 := hid Y2; have L2 := HL1.out.below hb2; have R2 := HR1.out.below hb2; have m0 := L2.c 0; have m1 := L2.c 1; have m2 := L2.c 2; have p0 := R2.c 0; have p1 := R2.c 1; have p2 := R2.c 2; have HZ2 : Hid (w.heap.size + 4 ≤ w2.heap.size) := hid (by have := hb2.size; have := HZ1.out; omega); clear hb2 Y2 L2 R2)
      | (go_at_call 27; refine (H27.out _ HB2.out).mono ?_; rintro e w3 ⟨a', c', rfl, ht, hb⟩; have HT3 := hid ht; have HB3 := hid (HB2.out.trans (hb.mono HB2.out.size)); have Y3 := HY2.out.below hb; have HY3 := hid Y3; have r0 := Y3.c 0; have r1 := Y3.c 1; have r2 := Y3.c 2; have r3 := Y3.c 3; have r4 := Y3.c 4; have r5 := Y3.c 5; have r6 := Y3.c 6; have g0 := Y3.f 0; have g1 := Y3.f 1; have g2 := Y3.f 2; have g3 := Y3.f 3; have g4 := Y3.f 4; have g5 := Y3.f 5; have g6 := Y3.f 6; clear ht hb Y3; unfold wayC))
  refine bodyPost_ret (results_cell_row rfl _ _ (w.heap.size + 1) 36 (wayC 3 yn (xn, xs) a' (lenF l) c' none 0 0 0) (0, 0) _ rfl (box7_all HY3.out _ _ _ _ _ _ _) Try.underlying36 rfl Try.size36) rfl ?_
  exact ⟨⟨_, rfl, set_at (t := ((xn, xs), l)) (HT3.out.keep (fun q hq _ => sets7_far (by have := HZ2.out; omega) _ _ _ _ _ _ _)).tm⟩, sets7_below HB3.out (by omega) _ _ _ _ _ _ _⟩
set_option maxRecDepth 100000 in
set_option maxHeartbeats 4000000 in
theorem rone_pure (S : Option Addr) (n cap : Nat) (sg : List Sym) (xn : ByteArray) (xs : Int) (l : Fo) (yn : ByteArray) (ys : Int) (m : Fo) (a b : Option Addr) (c d : Nat) (w : World) (hG : SigAt w S n sg) (hS : TmAt w (xn, xs) a c l) (hT : TmAt w (yn, ys) b d m)
    (hc0 : (cmpN ((xn, xs), l) ((yn, ys), m) == 0) = false) (hx : noName xn = true) (hy : noName yn = true) (he : ys = xs) (h0 : 0 ≤ xs) (h1 : xs < sg.length) (hk : (kindAt sg xs != 1) = true) :
    Calls Try.prog 12 #[.slice S n cap, .agg #[.string xn, .int .i64 xs, .slice a (lenF l) c, .string yn, .int .i64 ys, .slice b (lenF m) d]] w fun e w' => (∃ v, e = .returned v ∧ WyAt w' v (⟨5, noS, zT, [], xs⟩)) ∧ Below w.heap.size w w' := by
  obtain ⟨b2, b3, b4, hb0⟩ := four_new w #[.string xn, .int .i64 xs, .slice a (lenF l) c, .string yn, .int .i64 ys, .slice b (lenF m) d] 28 zWay 36 #[.string xn, .int .i64 xs, .slice a (lenF l) c] 26 #[.string yn, .int .i64 ys, .slice b (lenF m) d] 26
  have H26 := hid fun (W : World) (hW : Below w.heap.size w W) => rsame_any ((xn, xs), l) ((yn, ys), m) a b c d W (hS.below hW) (hT.below hW)
  have HY := hid b2; have HL := hid b3; have HR := hid b4; have HB0 := hid hb0
  have hz0 : Hid (w.heap.size + 4 ≤ ((((w.alloc (.cells #[.string xn, .int .i64 xs, .slice a (lenF l) c, .string yn, .int .i64 ys, .slice b (lenF m) d] 28)).alloc (.cells zWay 36)).alloc (.cells #[.string xn, .int .i64 xs, .slice a (lenF l) c] 26)).alloc (.cells #[.string yn, .int .i64 ys, .slice b (lenF m) d] 26)).heap.size) := hid (by simp)
  obtain ⟨i, rfl⟩ : ∃ i : Nat, xs = i := ⟨xs.toNat, by omega⟩
  subst he
  have hi : i < sg.length := by omega
  have hlen := hG.len
  obtain ⟨sb, off, rfl, hy0⟩ := hG.cells i hi
  have HSY := hid hy0
  have hkk : kindAt sg i = sg[i].kind := by unfold kindAt; rw [Int.toNat_natCast, List.getElem?_eq_getElem hi]
  rw [hkk] at hk
  obtain ⟨kd, hkd⟩ : ∃ kd, sg[i].kind = kd := ⟨_, rfl⟩
  rw [hkd] at hk
  have HCK : Hid (∀ W, Below w.heap.size w W → W.cell? ⟨sb, off + i * 4 + 1, none⟩ = some (.int .i64 kd)) := hid (fun W hW => by rw [← hkd]; exact below_cell hW _ _ hy0.kind)
  have hne : ((i : Int) != (i : Int)) = false := by simp
  have hi2 : (i : Int) < (n : Int) := by omega
  have hi1 : (0 : Int) ≤ (i : Int) := by omega
  clear hkk hkd hy0 HSY hG h0 h1
  unfold noName at hx hy
  rw [hc0] at H26
  clear hS hT b2 b3 b4 hb0 hc0
  dsimp only at *
  go_enter Try.func12, Try.ntmps12
  go_wp2_with (first
      | (go_at_call 26; refine (H26.out _ HB0.out).mono ?_; rintro e w1 ⟨rfl, hb1⟩; have HB1 := hid (HB0.out.trans (hb1.mono HB0.out.size)); have Y1 := HY.out.below hb1; have HY1 := hid Y1; have L1 := HL.out.below hb1; have R1 := HR.out.below hb1; have HL1 := hid L1; have HR1 := hid R1; have l0 := L1.c 0; have l1 := L1.c 1; have l2 := L1.c 2; have q0 := R1.c 0; have q1 := R1.c 1; have q2 := R1.c 2; have ck := HCK.out _ HB1.out; have HZ1 : Hid (w.heap.size + 4 ≤ w1.heap.size) := hid (by have := hb1.size; have := hz0.out; omega); have r0 := Y1.c 0; have r1 := Y1.c 1; have r2 := Y1.c 2; have r3 := Y1.c 3; have r4 := Y1.c 4; have r5 := Y1.c 5; have r6 := Y1.c 6; have g0 := Y1.f 0; have g1 := Y1.f 1; have g2 := Y1.f 2; have g3 := Y1.f 3; have g4 := Y1.f 4; have g5 := Y1.f 5; have g6 := Y1.f 6; clear hb1 Y1 L1 R1))
  refine bodyPost_ret (results_cell_row rfl _ _ (w.heap.size + 1) 36 (wayC 5 noS (noS, 0) none 0 0 none 0 0 i) (0, 0) _ rfl (box7_all HY1.out _ _ _ _ _ _ _) Try.underlying36 rfl Try.size36) rfl ?_
  exact ⟨⟨_, rfl, act_at _ _ _⟩, sets7_below HB1.out (by omega) _ _ _ _ _ _ _⟩
set_option maxRecDepth 100000 in
set_option maxHeartbeats 4000000 in
theorem rone_lens (S : Option Addr) (n cap : Nat) (sg : List Sym) (xn : ByteArray) (xs : Int) (l : Fo) (yn : ByteArray) (ys : Int) (m : Fo) (a b : Option Addr) (c d : Nat) (w : World) (hG : SigAt w S n sg) (hS : TmAt w (xn, xs) a c l) (hT : TmAt w (yn, ys) b d m)
    (hc0 : (cmpN ((xn, xs), l) ((yn, ys), m) == 0) = false) (hx : noName xn = true) (hy : noName yn = true) (he : ys = xs) (h0 : 0 ≤ xs) (h1 : xs < sg.length) (hk : (kindAt sg xs != 1) = false) (hl : ((lenF l : Int) != (lenF m : Int)) = true) :
    Calls Try.prog 12 #[.slice S n cap, .agg #[.string xn, .int .i64 xs, .slice a (lenF l) c, .string yn, .int .i64 ys, .slice b (lenF m) d]] w fun e w' => (∃ v, e = .returned v ∧ WyAt w' v (actW 2)) ∧ Below w.heap.size w w' := by
  obtain ⟨b2, b3, b4, hb0⟩ := four_new w #[.string xn, .int .i64 xs, .slice a (lenF l) c, .string yn, .int .i64 ys, .slice b (lenF m) d] 28 zWay 36 #[.string xn, .int .i64 xs, .slice a (lenF l) c] 26 #[.string yn, .int .i64 ys, .slice b (lenF m) d] 26
  have H26 := hid fun (W : World) (hW : Below w.heap.size w W) => rsame_any ((xn, xs), l) ((yn, ys), m) a b c d W (hS.below hW) (hT.below hW)
  have HY := hid b2; have HL := hid b3; have HR := hid b4; have HB0 := hid hb0
  have hz0 : Hid (w.heap.size + 4 ≤ ((((w.alloc (.cells #[.string xn, .int .i64 xs, .slice a (lenF l) c, .string yn, .int .i64 ys, .slice b (lenF m) d] 28)).alloc (.cells zWay 36)).alloc (.cells #[.string xn, .int .i64 xs, .slice a (lenF l) c] 26)).alloc (.cells #[.string yn, .int .i64 ys, .slice b (lenF m) d] 26)).heap.size) := hid (by simp)
  obtain ⟨i, rfl⟩ : ∃ i : Nat, xs = i := ⟨xs.toNat, by omega⟩
  subst he
  have hi : i < sg.length := by omega
  have hlen := hG.len
  obtain ⟨sb, off, rfl, hy0⟩ := hG.cells i hi
  have HSY := hid hy0
  have hkk : kindAt sg i = sg[i].kind := by unfold kindAt; rw [Int.toNat_natCast, List.getElem?_eq_getElem hi]
  rw [hkk] at hk
  obtain ⟨kd, hkd⟩ : ∃ kd, sg[i].kind = kd := ⟨_, rfl⟩
  rw [hkd] at hk
  have HCK : Hid (∀ W, Below w.heap.size w W → W.cell? ⟨sb, off + i * 4 + 1, none⟩ = some (.int .i64 kd)) := hid (fun W hW => by rw [← hkd]; exact below_cell hW _ _ hy0.kind)
  have hne : ((i : Int) != (i : Int)) = false := by simp
  have hi2 : (i : Int) < (n : Int) := by omega
  have hi1 : (0 : Int) ≤ (i : Int) := by omega
  clear hkk hkd hy0 HSY hG h0 h1
  unfold noName at hx hy
  rw [hc0] at H26
  clear hS hT b2 b3 b4 hb0 hc0
  dsimp only at *
  go_enter Try.func12, Try.ntmps12
  go_wp2_with (first
      | (go_at_call 26; refine (H26.out _ HB0.out).mono ?_; rintro e w1 ⟨rfl, hb1⟩; have HB1 := hid (HB0.out.trans (hb1.mono HB0.out.size)); have Y1 := HY.out.below hb1; have HY1 := hid Y1; have L1 := HL.out.below hb1; have R1 := HR.out.below hb1; have HL1 := hid L1; have HR1 := hid R1; have l0 := L1.c 0; have l1 := L1.c 1; have l2 := L1.c 2; have q0 := R1.c 0; have q1 := R1.c 1; have q2 := R1.c 2; have ck := HCK.out _ HB1.out; have HZ1 : Hid (w.heap.size + 4 ≤ w1.heap.size) := hid (by have := hb1.size; have := hz0.out; omega); have r0 := Y1.c 0; have r1 := Y1.c 1; have r2 := Y1.c 2; have r3 := Y1.c 3; have r4 := Y1.c 4; have r5 := Y1.c 5; have r6 := Y1.c 6; have g0 := Y1.f 0; have g1 := Y1.f 1; have g2 := Y1.f 2; have g3 := Y1.f 3; have g4 := Y1.f 4; have g5 := Y1.f 5; have g6 := Y1.f 6; clear hb1 Y1 L1 R1))
  refine bodyPost_ret (results_cell_row rfl _ _ (w.heap.size + 1) 36 (wayC 2 noS (noS, 0) none 0 0 none 0 0 0) (0, 0) _ rfl (box7_all HY1.out _ _ _ _ _ _ _) Try.underlying36 rfl Try.size36) rfl ?_
  exact ⟨⟨_, rfl, act_at _ _ _⟩, sets7_below HB1.out (by omega) _ _ _ _ _ _ _⟩
end Go.Proofs.Ytfnfbljijkjkjaa
/- The document's One where it answers parts. -/
namespace Go.Proofs.Ytfnfbljijkjkjaa
open Go.RowKit Go.Deep

abbrev outC (v : Value) : Array Value := #[.int .i64 4, .string ⟨#[]⟩, .string ⟨#[]⟩, .int .i64 0, .slice none 0 0, v, .int .i64 0]
/-- One's boxes and the equations that it has laid. -/
structure PSt (w : World) (o : Nat) (Lc Rc : Array Value) (W : World) (v : Value) (j : Nat) (ks : List Kv) : Prop where
  low : Below w.heap.size w W
  big : w.heap.size + 4 ≤ o
  y : Box W (w.heap.size + 1) 36 zWay
  l : Box W (w.heap.size + 1 + 1) 26 Lc
  r : Box W (w.heap.size + 1 + 1 + 1) 26 Rc
  x : Box W o 36 (outC v)
  row : W.ownsRow (o + 1) 28 6 v j (kvCells ks)
  own : ∀ k ∈ ks, OwnTm false (fun q => o + 1 ≤ q ∧ some q ≠ v.ownBlock) W k.x k.a k.c k.l

theorem part_far {w wr v1 v2 w3 : World} {o : Nat} {Lc Rc : Array Value} {v : Value} {j : Nat} {ks : List Kv} {ob : Obj} (hP : PSt w o Lc Rc wr v j ks) (h1 : Below wr.heap.size wr v1) (h2 : Below v1.heap.size v1 v2) (hg : (v2.alloc ob).grownBy w3 v.ownBlock) :
    (∀ q, q < o + 1 → w3.heap[q]? = wr.heap[q]?) ∧ Below w.heap.size w w3 := by
  have h12 := h1.trans (h2.mono h1.size)
  have hWa : Below wr.heap.size wr (v2.alloc ob) := h12.alloc h12.size _
  have hxl := hP.x.lt
  have hls := hP.low.size
  have hbg := hP.big
  have hb : ∀ q, v.ownBlock = some q → o + 1 ≤ q := fun q e => (owns_cells hP.row e).1
  have hz := h12.size
  refine ⟨fun q hq => ?_, hP.low.trans ((hWa.mono hls).grown hg (by simp; omega) (fun k e => by have := hb k e; omega))⟩
  rw [hg.block q (by rw [World.size_alloc]; omega) (fun e => by have := hb q e.symm; omega)]
  exact hWa.block q (by omega)
/-- One equation more. -/
theorem part_step {w wr v1 v2 w3 : World} {o : Nat} {Lc Rc : Array Value} {v : Value} {j g cap : Nat} {ks : List Kv} {k1 k2 : Kv} {ob : Obj} (hP : PSt w o Lc Rc wr v j ks) (h1 : Below wr.heap.size wr v1) (h2 : Below v1.heap.size v1 v2)
    (hk1 : OwnTm false (fun q => wr.heap.size ≤ q) v1 k1.x k1.a k1.c k1.l) (hk2 : OwnTm false (fun q => v1.heap.size ≤ q) v2 k2.x k2.a k2.c k2.l) (hg : (v2.alloc ob).grownBy w3 v.ownBlock) (hat : v.ownBlock = some g ∨ g = v2.heap.size + 1)
    (ho : w3.ownsRow (o + 1) 28 6 (.slice (some ⟨g, 0, none⟩) (j + 1) cap) (j + 1) (kvCells ks ++ kvCells [k1, k2])) :
    PSt w o Lc Rc (w3.setCell ⟨o, 5, none⟩ (.slice (some ⟨g, 0, none⟩) (j + 1) cap)) (.slice (some ⟨g, 0, none⟩) (j + 1) cap) (j + 1) (ks ++ [k1, k2]) := by
  obtain ⟨far, hlow⟩ := part_far hP h1 h2 hg
  have h12 := h1.trans (h2.mono h1.size)
  have hWa : Below wr.heap.size wr (v2.alloc ob) := h12.alloc h12.size _
  have hxl := hP.x.lt
  have hbg := hP.big
  have hs1 := h1.size
  have hs2 := h2.size
  have hv : ∀ q, v.ownBlock = some q → o + 1 ≤ q ∧ q < wr.heap.size := fun q e => by
    obtain ⟨h, cur, hc⟩ := owns_cells hP.row e
    exact ⟨h, (Array.getElem?_eq_some_iff.1 hc).1⟩
  have set : ∀ (q : Nat), q ≠ o → (w3.setCell ⟨o, 5, none⟩ (.slice (some ⟨g, 0, none⟩) (j + 1) cap)).heap[q]? = w3.heap[q]? := fun q hq => Below.heap_setCell w3 ⟨o, 5, none⟩ _ q hq
  have grow : ∀ (q : Nat), some q ≠ v.ownBlock → q < (v2.alloc ob).heap.size → w3.heap[q]? = (v2.alloc ob).heap[q]? := fun q hq hlt => hg.block q hlt hq
  refine ⟨hlow.setCell (p := ⟨o, 5, none⟩) (by show w.heap.size ≤ o; omega) _, hbg, ?_, ?_, ?_, ?_, ?_, ?_⟩
  · exact ((set _ (by omega)).trans (far _ (by omega))).trans hP.y
  · exact ((set _ (by omega)).trans (far _ (by omega))).trans hP.l
  · exact ((set _ (by omega)).trans (far _ (by omega))).trans hP.r
  · exact Box.set (cs := outC v) ((far _ (by omega)).trans hP.x) 5 _
  · rw [kvCells_app]
    exact owns_block ho (fun q hq => by have := (owns_cells ho hq).1; exact set q (by omega))
  · have last : ∀ {k : Kv}, OwnTm false (fun q => (o + 1 ≤ q ∧ some q ≠ some g) ∧ some q ≠ v.ownBlock) v2 k.x k.a k.c k.l → OwnTm false (fun q => o + 1 ≤ q ∧ some q ≠ some g) (w3.setCell ⟨o, 5, none⟩ (.slice (some ⟨g, 0, none⟩) (j + 1) cap)) k.x k.a k.c k.l := fun h =>
      (((h.below ((Below.refl _ _).alloc (Nat.le_refl _) ob)).keep (fun q hq hlt => grow q hq.2 hlt)).mono (fun q _ hq => hq.1)).keep (fun q hq _ => set q (by omega))
    intro k hkm
    rcases List.mem_append.1 hkm with hkm | hkm
    · refine last ?_
      have h0 : OwnTm false (fun q => (o + 1 ≤ q ∧ some q ≠ some g) ∧ some q ≠ v.ownBlock) wr k.x k.a k.c k.l := (hP.own k hkm).mono (fun q hq hp => ⟨⟨hp.1, by
        rcases hat with e | e
        · rw [← e]; exact hp.2
        · intro e'; cases e'; omega⟩, hp.2⟩)
      exact h0.below h12
    · have hnew : ∀ q, wr.heap.size ≤ q → q < v2.heap.size → (o + 1 ≤ q ∧ some q ≠ some g) ∧ some q ≠ v.ownBlock := fun q hq hlt => ⟨⟨by omega, by
        rcases hat with e | e
        · intro e'; cases e'; have := hv g e; omega
        · intro e'; cases e'; omega⟩, fun e' => by have := hv q e'.symm; omega⟩
      simp only [List.mem_cons, List.not_mem_nil, or_false] at hkm
      rcases hkm with rfl | rfl
      · exact last ((hk1.below h2).mono (fun q hq hp => hnew q hp hq))
      · exact last (hk2.mono (fun q hq hp => hnew q (by omega) hq))
theorem owns_cell1 {w : World} {base e size g n cap : Nat} {xs : List Value} (h : w.ownsRow base e size (.slice (some ⟨g, 0, none⟩) n cap) n xs) {i : Nat} {u : Value} (hu : xs[i]? = some u) : w.cell? ⟨g, i, none⟩ = some u := by
  have := owns_at h i u hu
  rwa [Nat.zero_add] at this
theorem part_end {w W : World} {o : Nat} {Lc Rc : Array Value} {v : Value} {ks : List Kv} {ls : List (Tn × Tn)} {j : Nat} (hP : PSt w o Lc Rc W v j ks) (hj : ls.length = j) (hks : ks.map Kv.tn = flatL ls) :
    ∃ la lc, v = .slice la j lc ∧ ∀ W' : World, (∀ q, o + 1 ≤ q → W'.heap[q]? = W.heap[q]?) → WyAt W' (.agg (wayC 4 noS (noS, 0) none 0 0 la j lc 0)) ⟨4, noS, zT, ls, 0⟩ := by
  subst hj
  have hT : ∀ W' : World, (∀ q, o + 1 ≤ q → W'.heap[q]? = W.heap[q]?) → ∀ k ∈ ks, TmAt W' k.x k.a k.c k.l := fun W' hW k hk => ((hP.own k hk).keep (fun q hq _ => hW q hq.1)).tm
  rcases hP.row.2 with ⟨hv, h0⟩ | ⟨g, cap, cur, rfl, hb, hg, hnc, hcm, hsz, hcur⟩
  · exact ⟨none, 0, by rw [h0]; exact hv, fun W' hW => ⟨none, 0, ks, none, 0, by rfl, zT_at _, hks, hT W' hW, .inl h0, by show ls.length ≤ 0; omega⟩⟩
  · exact ⟨_, cap, rfl, fun W' hW => ⟨none, 0, ks, _, cap, rfl, zT_at _, hks, hT W' hW, .inr ⟨g, rfl, fun i u hu => owns_cell1 (owns_block hP.row (fun q hq => hW q (owns_cells hP.row hq).1)) hu⟩, hnc⟩⟩

end Go.Proofs.Ytfnfbljijkjkjaa
