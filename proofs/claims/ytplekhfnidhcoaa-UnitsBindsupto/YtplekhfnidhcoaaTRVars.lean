/- What the document's Names and Vars answer. -/
import Derived.Test.YtplekhfnidhcoaaTRNames
import Derived.Laws.AppendOwnNone
namespace Go.Proofs.Ytplekhfnidhcoaa
open Go.RowKit Go.Deep

/-- The slice with this address holds these texts. -/
structure TextsAt (w : World) (a : Option Addr) (n : Nat) (ss : List Nm) : Prop where
  len : n = ss.length
  cells : ∀ i (h : i < ss.length), ∃ b off, a = some ⟨b, off, none⟩ ∧ w.cell? ⟨b, off + i, none⟩ = some (.string ⟨ss[i].toArray⟩)
set_option maxRecDepth 100000 in
theorem TextsAt.below {w w' : World} {a : Option Addr} {n : Nat} {ss : List Nm} (h : TextsAt w a n ss) (hb : Below w.heap.size w w') : TextsAt w' a n ss :=
  ⟨h.len, fun i hi => by obtain ⟨b, off, ha, hc⟩ := h.cells i hi; exact ⟨b, off, ha, below_cell hb _ _ hc⟩⟩
set_option maxRecDepth 100000 in
theorem texts_of_owns {w : World} {base n : Nat} {v : Value} {ss : List Nm} (h : w.ownsRow base 9 1 v n (ss.map encStr)) : ∃ a cap, v = .slice a n cap ∧ n ≤ cap ∧ cap ≤ maxLen ∧ TextsAt w a n ss ∧ (a = none → n = 0 ∧ cap = 0) ∧ (∀ b off sp, a = some ⟨b, off, sp⟩ → base ≤ b ∧ off = 0 ∧ sp = none ∧ ∃ cur, w.heap[b]? = some (Obj.cells cur 9 (0, 0))) := by
  have hl : ss.length = n := by simpa using h.1
  rcases h.2 with ⟨rfl, h0⟩ | ⟨g, cap, cur, rfl, hb, hg, hnc, hcm, hsz, hcur⟩
  · exact ⟨none, 0, by rw [h0], by omega, by simp, ⟨by omega, fun i hi => by omega⟩, fun _ => ⟨h0, rfl⟩, fun b off sp e => by cases e⟩
  · refine ⟨_, cap, rfl, hnc, hcm, ⟨hl.symm, fun i hi => ⟨g, 0, rfl, ?_⟩⟩, (fun e => by cases e), (fun b off sp e => by cases e; exact ⟨hb, rfl, rfl, cur, hg⟩)⟩
    exact owns_at h i _ (by simp [hi])
set_option maxRecDepth 100000 in
theorem less_bytes (a b : Nm) : Op.bytesLess a b = decide (Lib.compareBytes a b = -1) := by
  rw [bytesLess_eq]
  exact decide_eq_decide.2 (lt_bytes _ _)

set_option maxRecDepth 100000 in
theorem own_empty9 (w : World) : (w.alloc (.cells #[] 9)).ownsRow w.heap.size 9 1 (.slice (some ⟨w.heap.size, 0, none⟩) 0 0) 0 [] :=
  ⟨rfl, Or.inr ⟨w.heap.size, 0, #[], rfl, Nat.le_refl _, heap_alloc_new w _, Nat.le_refl _, by simp, rfl, rfl⟩⟩
set_option maxRecDepth 100000 in
theorem own_base9 {w : World} {B B' k : Nat} {v : Value} {xs : List Value} (h : w.ownsRow B 9 1 v k xs) (hB : B' ≤ B) : w.ownsRow B' 9 1 v k xs := by
  refine ⟨h.1, ?_⟩
  rcases h.2 with h | ⟨g, cap, cur, h1, h2, h3⟩
  · exact .inl h
  · exact .inr ⟨g, cap, cur, h1, by omega, h3⟩
set_option maxRecDepth 100000 in
theorem enc_one (l : List Nm) : ∀ u ∈ l.map encStr, u.oneCell' = true := by
  intro u hu
  obtain ⟨x, _, rfl⟩ := List.mem_map.1 hu
  rfl
set_option maxRecDepth 100000 in
/-- Where a piece of a list of texts lies. -/
theorem texts_news {w : World} {g n : Nat} {out : List Nm} (h : TextsAt w (some ⟨g, 0, none⟩) n out) (m : Nat) : ∀ j u, ((out.drop m).map encStr)[j]? = some u → w.cell? ((⟨g, m, none⟩ : Addr).add j) = some u := by
  intro j u hu
  have e : (⟨g, m, none⟩ : Addr).add j = ⟨g, m + j, none⟩ := by unfold Addr.add; split <;> simp_all
  rw [e]
  rw [List.getElem?_map, List.getElem?_drop] at hu
  rcases Nat.lt_or_ge (m + j) out.length with hlt | hge
  · rw [List.getElem?_eq_getElem hlt] at hu
    simp only [Option.map_some, Option.some.injEq] at hu
    subst hu
    obtain ⟨b, off, hb, hc⟩ := h.cells (m + j) hlt
    cases hb
    rw [Nat.zero_add] at hc
    exact hc
  · rw [List.getElem?_eq_none hge] at hu; cases hu
set_option maxRecDepth 100000 in
theorem texts_front {w : World} {g n : Nat} {out : List Nm} (h : TextsAt w (some ⟨g, 0, none⟩) n out) (m : Nat) : ∀ j u, ((out.take m).map encStr)[j]? = some u → w.cell? ((⟨g, 0, none⟩ : Addr).add j) = some u := by
  intro j u hu
  refine texts_news h 0 j u ?_
  rw [List.drop_zero]
  rw [List.getElem?_map] at hu ⊢
  rw [List.getElem?_take] at hu
  split at hu
  · exact hu
  · cases hu

set_option maxRecDepth 100000 in
set_option maxHeartbeats 4000000 in
theorem Names_any (a : Option Addr) (n cap : Nat) (ss : List Nm) (w : World) (hS : TextsAt w a n ss) (hn : n ≤ 1048576) :
    Calls Try.prog 20 #[.slice a n cap] w fun e w' => ∃ v, e = .returned v ∧ w'.ownsRow w.heap.size 9 1 v (Lib.compact (sortL ss)).length ((Lib.compact (sortL ss)).map encStr) ∧ Below w.heap.size w w' := by
  obtain ⟨i0, hi, hz0, hz1, hz2⟩ := info_parts Try.info9
  obtain rfl := hS.len
  have HS : Hid (TextsAt w a ss.length ss) := hS
  clear hS
  go_enter Try.func20, Try.ntmps20
  go_wp2
  go_loopw [3, 4, 5, 6] (fun ov i _ _ wr => ∃ (k : Nat) (v : Value) (out : List Nm), k ≤ ss.length ∧ v = ov ∧ i = .int .i64 k ∧ (wr.ownsRow w.heap.size 9 1 v out.length (out.map encStr) ∧ Below w.heap.size w wr) ∧ SS out ∧ (∀ x, x ∈ out ↔ x ∈ ss.take k) ∧ out.length ≤ k) (fun _ i _ _ _ => ss.length - (intOf i).toNat)
  case atStart => exact ⟨0, _, [], Nat.zero_le _, rfl, rfl, ⟨World.ownsRow_nil _ _ _ _, Below.refl _ _⟩, by simp [SS], by simp, by simp⟩
  case round =>
    obtain ⟨k, v, out, hk, rfl, rfl, ⟨hrow, hlow⟩, hss, hmem, hol⟩ := hrel
    have HR : Hid (wr.ownsRow w.heap.size 9 1 v out.length (out.map encStr)) := hrow
    have HL : Hid (Below w.heap.size w wr) := hlow
    have HSS : Hid (SS out) := hss
    have HM : Hid (∀ x, x ∈ out ↔ x ∈ ss.take k) := hmem
    clear hrow hlow hss hmem
    by_cases hlt : k < ss.length
    · obtain ⟨b, off, rfl, hs0⟩ := HS.out.cells k (by omega)
      obtain ⟨s, hsd⟩ : ∃ s, ss[k]'(by omega) = s := ⟨_, rfl⟩
      rw [hsd] at hs0
      have hs1 := below_cell HL.out _ _ hs0
      obtain ⟨oa, ocap, rfl, hoc, hocm, hot, honil, hosome⟩ := texts_of_owns HR.out
      obtain ⟨wo, rfl⟩ : ∃ wo, wo = wr := ⟨wr, rfl⟩
      have HOT : Hid (TextsAt wo oa out.length out) := hot
      have HSK : Hid (∀ x, x ∈ ss.take (k + 1) ↔ x ∈ ss.take k ∨ x = s) := fun x => by
        rw [List.take_add_one, List.getElem?_eq_getElem (by omega), hsd]; simp
      clear hot hs0 hsd
      have hne := Nonempty.intro (Later.mk wo (Below.refl _ _))
      rcases oa with _ | ⟨g, o2, sp⟩
      · obtain ⟨ho0, rfl⟩ := honil rfl
        obtain rfl : out = [] := List.length_eq_zero_iff.1 ho0
        clear ho0 hosome honil HOT
        have hd : decide (0 < 0) = false := by simp
        have hjn : (k : Int) < (ss.length : Int) := by omega
        go_wp2
        go_loopw [5] (fun av W => av = .int .i64 0 ∧ Below wo.heap.size wo W) (fun av _ => (intOf av).toNat)
        case atStart => exact ⟨rfl, Below.refl _ _⟩
        case round =>
          obtain ⟨rfl, hW⟩ := hrel
          have HW : Hid (Below wo.heap.size wo wr) := hW
          have hs2 := below_cell hW _ _ hs1
          have hne2 := later_some wr
          have d0 := later_cell hs2
          clear hW
          go_wp2_with fail
          refine wp_region_later (by kernel_rfl) (by kernel_rfl) ?_
          repeat (go_big_quiet_step (fail))
          refine wpQuiet_nil ?_
          intro _ hw'
          obtain ⟨b2, hw''⟩ := hw'
          subst hw''
          have hs3 := d0 b2
          have HW2 : Hid (Below wo.heap.size wo b2.now) := HW.out.trans (b2.below.mono HW.out.size)
          clear d0 hne2 hs2
          have hne3 := later_some b2.now
          have d0 := later_cell hs3
          go_wp2
          refine wp_region_later (by kernel_rfl) (by kernel_rfl) ?_
          repeat (go_big_quiet_step (fail))
          refine wpQuiet_nil ?_
          intro _ hw'
          obtain ⟨b3, hw''⟩ := hw'
          subst hw''
          have HW3 : Hid (Below wo.heap.size wo b3.now) := HW2.out.trans (b3.below.mono HW2.out.size)
          have hs4 := d0 b3
          clear d0 hne3 hs3 HW2 HW
          obtain ⟨W9, hW9⟩ : ∃ W9, b3.now = W9 := ⟨_, rfl⟩
          rw [hW9] at HW3 hs4 ⊢
          clear hW9
          have hB9 : Hid (Below W9.heap.size W9 (W9.alloc (.cells #[] 9))) := (Below.refl _ _).alloc (Nat.le_refl _) _
          have hone : Hid (∀ u ∈ [Value.string ⟨s.toArray⟩], u.oneCell' = true) := by intro u hu; simp at hu; subst hu; rfl
          have hs5 := below_cell hB9.out _ _ hs4
          have hnews : Hid (∀ (i : Nat) (u : Value), [Value.string ⟨s.toArray⟩][i]? = some u → ((W9.alloc (.cells #[] 9)).alloc (.cells #[.string ⟨s.toArray⟩] 9)).cell? ((⟨W9.heap.size + 1, 0, none⟩ : Addr).add i) = some u) := by
            have h := World.news_of_block (heap_alloc_new (W9.alloc (.cells #[] 9)) (.cells #[.string ⟨s.toArray⟩] 9))
            rw [World.size_alloc] at h; exact h
          go_wp2_with (at_builtin; first | (refine wpList_append_own _ rfl (.tmp 50) (.tmp 55) 33 rfl W9.heap.size 9 i0 (.string ⟨#[]⟩) 1 16 Try.underlying33 hi hz0 hz1 hz2 rfl (by decide) _ 0 [] rfl ((own_empty9 W9).alloc _) ⟨W9.heap.size + 1, 0, none⟩ 1 1 [.string ⟨s.toArray⟩] rfl rfl hnews.out hone.out (by decide) (by decide) (by rw [World.size_alloc, World.size_alloc]; omega) ?_; intro v' w1 hown' hgrow _; obtain ⟨g', cap', rfl⟩ := ownsRow_succ hown'; have HG : Hid (((W9.alloc (.cells #[] 9)).alloc (.cells #[.string ⟨s.toArray⟩] 9)).grownBy w1 (some W9.heap.size)) := hgrow; have HO1 : Hid (w1.ownsRow W9.heap.size 9 1 (.slice (some ⟨g', 0, none⟩) 1 cap') 1 [.string ⟨s.toArray⟩]) := hown'; clear hown' hgrow) | (refine wpList_append_own_none rfl (.tmp 57) (.tmp 60) 33 rfl W9.heap.size 9 i0 1 Try.underlying33 hi _ 1 [.string ⟨s.toArray⟩] rfl HO1.out rfl ?_))
          go_roundw
          case rel =>
            have hb1 : Below W9.heap.size W9 w1 := (hB9.out.alloc (by rw [World.size_alloc]; omega) _).grown HG.out (by rw [World.size_alloc, World.size_alloc]; omega) (fun k e => by cases e; exact Nat.le_refl _)
            have hb2 : Below w.heap.size w w1 := HL.out.trans ((HW3.out.trans (hb1.mono HW3.out.size)).mono HL.out.size)
            refine ⟨k + 1, _, [s], by omega, rfl, by go_num, ⟨own_base9 HO1.out (Nat.le_trans HL.out.size HW3.out.size), hb2⟩, by simp [SS], fun x => ?_, by simp⟩
            rw [HSK.out x, ← HM.out x]
            simp
          case measure => simp [intOf]; omega
      · obtain ⟨_, rfl, rfl, _⟩ := hosome g o2 sp rfl
        have hne := Nonempty.intro (Later.mk wo (Below.refl _ _))
        go_wp2
        go_loopw [5] (fun av W => ∃ m : Nat, m ≤ out.length ∧ av = .int .i64 m ∧ Below wo.heap.size wo W ∧ ∀ i (h : i < out.length), m ≤ i → LtN s out[i]) (fun av _ => (intOf av).toNat)
        case atStart => exact ⟨out.length, Nat.le_refl _, rfl, Below.refl _ _, fun i h1 h2 => absurd h1 (by omega)⟩
        case round =>
          obtain ⟨m, hm, rfl, hW, hhi⟩ := hrel
          have HW : Hid (Below wo.heap.size wo wr) := hW
          have HHI : Hid (∀ i (h : i < out.length), m ≤ i → LtN s out[i]) := hhi
          have hs2 := below_cell hW _ _ hs1
          have hne2 := later_some wr
          have d0 := later_cell hs2
          clear hW hhi
          rcases Nat.eq_zero_or_pos m with hm0 | hm0
          case' inl =>
            have hd : decide (0 < m) = false := by simp; omega
            have HLO : Hid (m = 0 ∨ ∃ h : m - 1 < out.length, LtN out[m - 1] s) := .inl hm0
            clear hm0
            go_wp2_with fail
            refine wp_region_later (by kernel_rfl) (by kernel_rfl) ?_
            repeat (go_big_quiet_step (fail))
            refine wpQuiet_nil ?_
            intro _ hw'
            obtain ⟨b2, hw''⟩ := hw'
            subst hw''
            have hs3 := d0 b2
            have HW2 : Hid (Below wo.heap.size wo b2.now) := HW.out.trans (b2.below.mono HW.out.size)
            clear d0 hne2 hs2
            have hne3 := later_some b2.now
            have d0 := later_cell hs3
            go_wp2
            refine wp_region_later (by kernel_rfl) (by kernel_rfl) ?_
            repeat (go_big_quiet_step (fail))
            refine wpQuiet_nil ?_
            intro _ hw'
            obtain ⟨b3, hw''⟩ := hw'
            subst hw''
            have HW3 : Hid (Below wo.heap.size wo b3.now) := HW2.out.trans (b3.below.mono HW2.out.size)
            have hs4 := d0 b3
            clear d0 hne3 hs3 HW2 HW
            obtain ⟨W9, hW9⟩ : ∃ W9, b3.now = W9 := ⟨_, rfl⟩
            rw [hW9] at HW3 hs4 ⊢
            clear hW9
          case' inr =>
            obtain ⟨g2, o2, he2, ho0⟩ := HOT.out.cells (m - 1) (by omega)
            cases he2
            have ho1 := below_cell HW.out _ _ ho0
            obtain ⟨y, hy⟩ : ∃ y, out[m - 1]'(by omega) = y := ⟨_, rfl⟩
            rw [hy, Nat.zero_add] at ho1
            have HY : Hid (∃ h : m - 1 < out.length, out[m - 1] = y) := ⟨by omega, hy⟩
            have e0 := later_cell ho1
            have hL := less_bytes y s
            have hd : decide (0 < m) = true := by simp; omega
            have hk0 : (0 : Int) ≤ (m : Int) - 1 := by omega
            have hkn : (m : Int) - 1 < (out.length : Int) := by omega
            have hj0 : (0 : Int) ≤ (k : Int) := by omega
            have hjn : (k : Int) < (ss.length : Int) := by omega
            clear ho0 hy
            cases h1 : Op.bytesLess y s
            case' false =>
              cases h2 : (y == s)
              case false =>
                have hlt' : Hid (LtN s y) := by
                  rw [h1] at hL
                  exact ltN_total (by simpa [LtN] using hL.symm) (by simpa using h2)
                clear hL
                go_wp2_with fail
                refine wp_region_later (by kernel_rfl) (by kernel_rfl) ?_
                repeat (go_big_quiet_step (fail))
                refine wpQuiet_nil ?_
                intro _ hw'
                obtain ⟨b2, hw''⟩ := hw'
                subst hw''
                have HW2 : Hid (Below wo.heap.size wo b2.now) := HW.out.trans (b2.below.mono HW.out.size)
                clear d0 e0 hne2
                go_wp2
                go_roundw
                case rel => exact ⟨m - 1, by omega, by go_num, HW2.out, fun i h h' => by
                  by_cases e : i = m - 1
                  · subst e; obtain ⟨_, hy⟩ := HY.out; rw [hy]; exact hlt'.out
                  · exact HHI.out i h (by omega)⟩
                case measure => simp [intOf]; omega
              case true =>
                have heq : Hid (y = s) := by show _ = _; simpa using h2
                clear hL
                go_wp2_with fail
                refine wp_region_later (by kernel_rfl) (by kernel_rfl) ?_
                repeat (go_big_quiet_step (fail))
                refine wpQuiet_nil ?_
                intro _ hw'
                obtain ⟨b2, hw''⟩ := hw'
                subst hw''
                have HW2 : Hid (Below wo.heap.size wo b2.now) := HW.out.trans (b2.below.mono HW.out.size)
                have hs3 := d0 b2
                have ho3 := e0 b2
                clear d0 e0 hne2 hs2
                have hne3 := later_some b2.now
                have d0 := later_cell hs3
                have e0 := later_cell ho3
                go_wp2
                refine wp_region_later (by kernel_rfl) (by kernel_rfl) ?_
                repeat (go_big_quiet_step (fail))
                refine wpQuiet_nil ?_
                intro _ hw'
                obtain ⟨b3, hw''⟩ := hw'
                subst hw''
                have HW3 : Hid (Below wo.heap.size wo b3.now) := HW2.out.trans (b3.below.mono HW2.out.size)
                clear d0 e0 hne3 hs3 ho3
                go_wp2
                go_roundw
                case rel =>
                  refine ⟨k + 1, _, out, by omega, rfl, by go_num, ⟨owns_below HR.out HW3.out, HL.out.trans (HW3.out.mono HL.out.size)⟩, HSS.out, fun x => ?_, by omega⟩
                  rw [HSK.out x, HM.out x]
                  constructor
                  · exact .inl
                  · rintro (h | h)
                    · exact h
                    · rw [← HM.out x, h]
                      obtain ⟨hh, hy⟩ := HY.out
                      rw [← heq.out, ← hy]
                      exact List.getElem_mem hh
                case measure => simp [intOf]; omega
            case' true =>
              have h2 : (y == s) = false := by
                have h3 : LtN y s := by rw [h1] at hL; simpa [LtN] using hL.symm
                simp
                intro e
                subst e
                exact ltN_irrefl _ h3
              have HLO : Hid (m = 0 ∨ ∃ h : m - 1 < out.length, LtN out[m - 1] s) := .inr (by
                obtain ⟨hh, hy⟩ := HY.out
                exact ⟨hh, by rw [hy]; rw [h1] at hL; simpa [LtN] using hL.symm⟩)
              clear hL
              go_wp2_with fail
              refine wp_region_later (by kernel_rfl) (by kernel_rfl) ?_
              repeat (go_big_quiet_step (fail))
              refine wpQuiet_nil ?_
              intro _ hw'
              obtain ⟨b2, hw''⟩ := hw'
              subst hw''
              have HW2 : Hid (Below wo.heap.size wo b2.now) := HW.out.trans (b2.below.mono HW.out.size)
              have hs3 := d0 b2
              have ho3 := e0 b2
              clear d0 e0 hne2 hs2
              have hne3 := later_some b2.now
              have d0 := later_cell hs3
              have e0 := later_cell ho3
              go_wp2
              refine wp_region_later (by kernel_rfl) (by kernel_rfl) ?_
              repeat (go_big_quiet_step (fail))
              refine wpQuiet_nil ?_
              intro _ hw'
              obtain ⟨b3, hw''⟩ := hw'
              subst hw''
              have HW3 : Hid (Below wo.heap.size wo b3.now) := HW2.out.trans (b3.below.mono HW2.out.size)
              have hs4 := d0 b3
              clear d0 e0 hne3 hs3 ho3 HW2 HW
              obtain ⟨W9, hW9⟩ : ∃ W9, b3.now = W9 := ⟨_, rfl⟩
              rw [hW9] at HW3 hs4 ⊢
              clear hW9
          all_goals
            have HOT9 : Hid (TextsAt W9 (some ⟨g, 0, none⟩) out.length out) := HOT.out.below HW3.out
            have hB9 : Hid (Below W9.heap.size W9 (W9.alloc (.cells #[] 9))) := (Below.refl _ _).alloc (Nat.le_refl _) _
            have hone : Hid (∀ u ∈ [Value.string ⟨s.toArray⟩], u.oneCell' = true) := by intro u hu; simp at hu; subst hu; rfl
            have hjn : (k : Int) < (ss.length : Int) := by omega
            have bA : 0 + m ≤ maxLen := by show _ ≤ 9223372036854775807; omega
            have bB : (0 + m) * 16 ≤ 140737488355328 := Nat.le_trans (Nat.mul_le_mul_right 16 (show 0 + m ≤ 1048576 by omega)) (by decide)
            have bC : 0 + m + 1 ≤ maxLen := by show _ ≤ 9223372036854775807; omega
            have bD : (0 + m + 1) * 16 ≤ 140737488355328 := Nat.le_trans (Nat.mul_le_mul_right 16 (show 0 + m + 1 ≤ 1048577 by omega)) (by decide)
            have bE : 0 + m + 1 + (out.length - m) ≤ maxLen := by show _ ≤ 9223372036854775807; omega
            have bF : (0 + m + 1 + (out.length - m)) * 16 ≤ 140737488355328 := Nat.le_trans (Nat.mul_le_mul_right 16 (show 0 + m + 1 + (out.length - m) ≤ 1048577 by omega)) (by decide)
            have hmo : m ≤ ocap := by omega
            clear HOT
            have l1 : Hid (((out.take m).map encStr).length = m * 1) := by show _ = _; simp; omega
            have l3 : Hid (((out.drop m).map encStr).length = (out.length - m) * 1) := by show _ = _; simp
            have n1 : Hid (∀ j u, ((out.take m).map encStr)[j]? = some u → (W9.alloc (.cells #[] 9)).cell? ((⟨g, 0, none⟩ : Addr).add j) = some u) := texts_front (HOT9.out.below hB9.out) m
            by_cases hmc : ocap = m
            case' pos =>
              obtain ⟨ad, had⟩ : ∃ ad : Addr, ad = ⟨g, 0, none⟩ := ⟨_, rfl⟩
              have hx3 : Hid (∀ n c, Value.slice (some ⟨g, 0, none⟩) n c = Value.slice (some ad) n c) := by rw [had]; exact fun _ _ => rfl
              have HN3 : Hid (∀ w', Below W9.heap.size W9 w' → ∀ j u, ((out.drop m).map encStr)[j]? = some u → w'.cell? (ad.add j) = some u) := fun w' _ j u hu => by
                have : out.drop m = [] := by rw [List.drop_eq_nil_iff]; omega
                rw [this] at hu; cases hu
            case' neg =>
              obtain ⟨ad, had⟩ : ∃ ad : Addr, ad = ⟨g, m, none⟩ := ⟨_, rfl⟩
              have hx3 : Hid (∀ n c, Value.slice (some ⟨g, m, none⟩) n c = Value.slice (some ad) n c) := by rw [had]; exact fun _ _ => rfl
              have HN3 : Hid (∀ w', Below W9.heap.size W9 w' → ∀ j u, ((out.drop m).map encStr)[j]? = some u → w'.cell? (ad.add j) = some u) := fun w' hb j u hu => by
                rw [had]; exact texts_news (HOT9.out.below hb) m j u hu
            all_goals
              go_wp2_with (at_builtin; first | (refine wpList_append_own _ rfl (.tmp 45) (.tmp 48) 33 rfl W9.heap.size 9 i0 (.string ⟨#[]⟩) 1 16 Try.underlying33 hi hz0 hz1 hz2 rfl (by decide) _ 0 [] rfl (own_empty9 W9) ⟨g, 0, none⟩ m _ ((out.take m).map encStr) rfl l1.out n1.out (enc_one _) bA bB (by rw [World.size_alloc]; omega) ?_; intro v1 w1 hown1 hgrow1 _; have HO1 : Hid (w1.ownsRow W9.heap.size 9 1 v1 (0 + m) ([] ++ (out.take m).map encStr)) := hown1; have B1 : Hid (Below W9.heap.size W9 w1) := hB9.out.grown hgrow1 (by rw [World.size_alloc]; omega) (fun k e => by cases e; exact Nat.le_refl _); have hs5 := below_cell B1.out _ _ hs4; clear hown1 hgrow1 hs4) | (refine wpList_append_own _ rfl (.tmp 50) (.tmp 55) 33 rfl W9.heap.size 9 i0 (.string ⟨#[]⟩) 1 16 Try.underlying33 hi hz0 hz1 hz2 rfl (by decide) _ (0 + m) ([] ++ (out.take m).map encStr) rfl (HO1.out.alloc _) ⟨w1.heap.size, 0, none⟩ 1 1 [.string ⟨s.toArray⟩] rfl rfl (World.news_of_block (heap_alloc_new w1 (.cells #[.string ⟨s.toArray⟩] 9))) hone.out bC bD (by rw [World.size_alloc]; exact Nat.le_succ_of_le B1.out.size) ?_; intro v2 w2 hown2 hgrow2 _; have HO2 : Hid (w2.ownsRow W9.heap.size 9 1 v2 (0 + m + 1) (([] ++ (out.take m).map encStr) ++ [.string ⟨s.toArray⟩])) := hown2; have B2 : Hid (Below W9.heap.size W9 w2) := (B1.out.alloc B1.out.size _).grown hgrow2 (by rw [World.size_alloc]; exact Nat.le_succ_of_le B1.out.size) (fun k e => (owns_cells HO1.out e).1); clear hown2 hgrow2 hs5) | (refine wpList_append_own _ rfl (.tmp 57) (.tmp 60) 33 rfl W9.heap.size 9 i0 (.string ⟨#[]⟩) 1 16 Try.underlying33 hi hz0 hz1 hz2 rfl (by decide) v2 (0 + m + 1) _ rfl HO2.out ad (out.length - m) _ ((out.drop m).map encStr) (hx3.out _ _) l3.out (HN3.out w2 B2.out) (enc_one _) bE bF B2.out.size ?_; intro v3 w3 hown3 hgrow3 _; have HO3 : Hid (w3.ownsRow W9.heap.size 9 1 v3 (0 + m + 1 + (out.length - m)) ((([] ++ (out.take m).map encStr) ++ [Value.string ⟨s.toArray⟩]) ++ (out.drop m).map encStr)) := hown3; have B3 : Hid (Below W9.heap.size W9 w3) := B2.out.grown hgrow3 B2.out.size (fun k e => (owns_cells HO2.out e).1); clear hown3 hgrow3))
              clear hx3 had HN3
              go_roundw
              case rel =>
                have hb2 : Below w.heap.size w w3 := HL.out.trans ((HW3.out.trans (B3.out.mono HW3.out.size)).mono HL.out.size)
                refine ⟨k + 1, _, out.take m ++ [s] ++ out.drop m, by omega, rfl, by go_num, ⟨?_, hb2⟩, ss_insert HSS.out hm HHI.out HLO.out, fun x => ?_, ?_⟩
                · have h := own_base9 HO3.out (Nat.le_trans HL.out.size HW3.out.size)
                  have e1 : (out.take m ++ [s] ++ out.drop m).length = 0 + m + 1 + (out.length - m) := by simp; omega
                  have e2 : (out.take m ++ [s] ++ out.drop m).map encStr = (([] ++ (out.take m).map encStr) ++ [Value.string ⟨s.toArray⟩]) ++ (out.drop m).map encStr := by simp [encStr]
                  rw [e1, e2]
                  exact h
                · rw [HSK.out x, ← HM.out x, mem_insert]
                · simp; omega
              case measure => simp [intOf]; omega
    · have e1 : k = ss.length := by omega
      have hv : Hid (out = Lib.compact (sortL ss)) := vars_unique HSS.out (fun x => by rw [HM.out x, e1, List.take_length])
      go_wp2
      go_ret
      exact ⟨v, rfl, by rw [← hv.out]; exact HR.out, HL.out⟩
end Go.Proofs.Ytplekhfnidhcoaa
