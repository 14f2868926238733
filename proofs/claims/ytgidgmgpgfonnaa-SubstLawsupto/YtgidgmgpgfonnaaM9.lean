/- Texts laid together: TRVars, LPl, SIsP, PParts, PJoin, RTwo, RApp, RAppB, PHead, SHead, SBk, SLent, SKept, SRIs, LBase. -/
import Derived.Laws.AppendOwnNone
import Derived.Deep.RegionHeld3
import Derived.Deep.DeepCutAuto
import Derived.Deep.RegionLaw
import Derived.BigQuiet
import Derived.Test.YtgidgmgpgfonnaaM8
/- What the document's Names and Vars answer. -/
namespace Go.Proofs.Ytgidgmgpgfonnaa
open Go.RowKit Go.Deep

/-- The slice with this address holds these texts. -/
structure TextsAt (w : World) (a : Option Addr) (n : Nat) (ss : List Nm) : Prop where
  len : n = ss.length
  cells : ∀ i (h : i < ss.length), ∃ b off, a = some ⟨b, off, none⟩ ∧ w.cell? ⟨b, off + i, none⟩ = some (.string ⟨ss[i].toArray⟩)
set_option maxRecDepth 100000 in
theorem TextsAt.below {w w' : World} {a : Option Addr} {n : Nat} {ss : List Nm} (h : TextsAt w a n ss) (hb : Below w.heap.size w w') : TextsAt w' a n ss :=
  ⟨h.len, fun i hi => by obtain ⟨b, off, ha, hc⟩ := h.cells i hi; exact ⟨b, off, ha, below_cell hb _ _ hc⟩⟩
set_option maxRecDepth 100000 in
theorem texts_of_owns {w : World} {base n : Nat} {v : Value} {ss : List Nm} (h : w.ownsRow base 9 1 v n (ss.map encStr)) : ∃ a cap, v = .slice a n cap ∧ n ≤ cap ∧ cap ≤ maxLen ∧ TextsAt w a n ss ∧ (a = none → n = 0 ∧ cap = 0) ∧ (∀ b off sp, a = some ⟨b, off, sp⟩ → base ≤ b ∧ off = 0 ∧ sp = none ∧ ∃ cur, w.heap[b]? = some (Obj.cells cur 9 (0, 0))) := by
  have hl : ss.length = n := by simpa using h.1
  rcases h.2 with ⟨rfl, h0⟩ | ⟨g, cap, cur, rfl, hb, hg, hnc, hcm, hsz, hcur⟩
  · exact ⟨none, 0, by rw [h0], by omega, by simp, ⟨by omega, fun i hi => by omega⟩, fun _ => ⟨h0, rfl⟩, fun b off sp e => by cases e⟩
  · refine ⟨_, cap, rfl, hnc, hcm, ⟨hl.symm, fun i hi => ⟨g, 0, rfl, ?_⟩⟩, (fun e => by cases e), (fun b off sp e => by cases e; exact ⟨hb, rfl, rfl, cur, hg⟩)⟩
    exact owns_at h i _ (by simp [hi])
set_option maxRecDepth 100000 in
theorem less_bytes (a b : Nm) : Op.bytesLess a b = decide (Lib.compareBytes a b = -1) := by
  rw [bytesLess_eq]
  exact decide_eq_decide.2 (lt_bytes _ _)

set_option maxRecDepth 100000 in
theorem own_empty9 (w : World) : (w.alloc (.cells #[] 9)).ownsRow w.heap.size 9 1 (.slice (some ⟨w.heap.size, 0, none⟩) 0 0) 0 [] :=
  ⟨rfl, Or.inr ⟨w.heap.size, 0, #[], rfl, Nat.le_refl _, heap_alloc_new w _, Nat.le_refl _, by simp, rfl, rfl⟩⟩
set_option maxRecDepth 100000 in
theorem own_base9 {w : World} {B B' k : Nat} {v : Value} {xs : List Value} (h : w.ownsRow B 9 1 v k xs) (hB : B' ≤ B) : w.ownsRow B' 9 1 v k xs := by
  refine ⟨h.1, ?_⟩
  rcases h.2 with h | ⟨g, cap, cur, h1, h2, h3⟩
  · exact .inl h
  · exact .inr ⟨g, cap, cur, h1, by omega, h3⟩
set_option maxRecDepth 100000 in
theorem enc_one (l : List Nm) : ∀ u ∈ l.map encStr, u.oneCell' = true := by
  intro u hu
  obtain ⟨x, _, rfl⟩ := List.mem_map.1 hu
  rfl
set_option maxRecDepth 100000 in
/-- Where a piece of a list of texts lies. -/
theorem texts_news {w : World} {g n : Nat} {out : List Nm} (h : TextsAt w (some ⟨g, 0, none⟩) n out) (m : Nat) : ∀ j u, ((out.drop m).map encStr)[j]? = some u → w.cell? ((⟨g, m, none⟩ : Addr).add j) = some u := by
  intro j u hu
  have e : (⟨g, m, none⟩ : Addr).add j = ⟨g, m + j, none⟩ := by unfold Addr.add; split <;> simp_all
  rw [e]
  rw [List.getElem?_map, List.getElem?_drop] at hu
  rcases Nat.lt_or_ge (m + j) out.length with hlt | hge
  · rw [List.getElem?_eq_getElem hlt] at hu
    simp only [Option.map_some, Option.some.injEq] at hu
    subst hu
    obtain ⟨b, off, hb, hc⟩ := h.cells (m + j) hlt
    cases hb
    rw [Nat.zero_add] at hc
    exact hc
  · rw [List.getElem?_eq_none hge] at hu; cases hu
set_option maxRecDepth 100000 in
theorem texts_front {w : World} {g n : Nat} {out : List Nm} (h : TextsAt w (some ⟨g, 0, none⟩) n out) (m : Nat) : ∀ j u, ((out.take m).map encStr)[j]? = some u → w.cell? ((⟨g, 0, none⟩ : Addr).add j) = some u := by
  intro j u hu
  refine texts_news h 0 j u ?_
  rw [List.drop_zero]
  rw [List.getElem?_map] at hu ⊢
  rw [List.getElem?_take] at hu
  split at hu
  · exact hu
  · cases hu

set_option maxRecDepth 100000 in
set_option maxHeartbeats 4000000 in
theorem Names_any (a : Option Addr) (n cap : Nat) (ss : List Nm) (w : World) (hS : TextsAt w a n ss) (hn : n ≤ 1048576) :
    Calls Try.prog 48 #[.slice a n cap] w fun e w' => ∃ v, e = .returned v ∧ w'.ownsRow w.heap.size 9 1 v (Lib.compact (sortL ss)).length ((Lib.compact (sortL ss)).map encStr) ∧ Below w.heap.size w w' := by
  obtain ⟨i0, hi, hz0, hz1, hz2⟩ := info_parts Try.info9
  obtain rfl := hS.len
  have HS : Hid (TextsAt w a ss.length ss) := hS
  clear hS
  go_enter Try.func48, Try.ntmps48
  go_wp2
  go_loopw [3, 4, 5, 6] (fun ov i _ _ wr => ∃ (k : Nat) (v : Value) (out : List Nm), k ≤ ss.length ∧ v = ov ∧ i = .int .i64 k ∧ (wr.ownsRow w.heap.size 9 1 v out.length (out.map encStr) ∧ Below w.heap.size w wr) ∧ SS out ∧ (∀ x, x ∈ out ↔ x ∈ ss.take k) ∧ out.length ≤ k) (fun _ i _ _ _ => ss.length - (intOf i).toNat)
  case atStart => exact ⟨0, _, [], Nat.zero_le _, rfl, rfl, ⟨World.ownsRow_nil _ _ _ _, Below.refl _ _⟩, by simp [SS], by simp, by simp⟩
  case round =>
    obtain ⟨k, v, out, hk, rfl, rfl, ⟨hrow, hlow⟩, hss, hmem, hol⟩ := hrel
    have HR : Hid (wr.ownsRow w.heap.size 9 1 v out.length (out.map encStr)) := hrow
    have HL : Hid (Below w.heap.size w wr) := hlow
    have HSS : Hid (SS out) := hss
    have HM : Hid (∀ x, x ∈ out ↔ x ∈ ss.take k) := hmem
    clear hrow hlow hss hmem
    by_cases hlt : k < ss.length
    · obtain ⟨b, off, rfl, hs0⟩ := HS.out.cells k (by omega)
      obtain ⟨s, hsd⟩ : ∃ s, ss[k]'(by omega) = s := ⟨_, rfl⟩
      rw [hsd] at hs0
      have hs1 := below_cell HL.out _ _ hs0
      obtain ⟨oa, ocap, rfl, hoc, hocm, hot, honil, hosome⟩ := texts_of_owns HR.out
      obtain ⟨wo, rfl⟩ : ∃ wo, wo = wr := ⟨wr, rfl⟩
      have HOT : Hid (TextsAt wo oa out.length out) := hot
      have HSK : Hid (∀ x, x ∈ ss.take (k + 1) ↔ x ∈ ss.take k ∨ x = s) := fun x => by
        rw [List.take_add_one, List.getElem?_eq_getElem (by omega), hsd]; simp
      clear hot hs0 hsd
      have hne := Nonempty.intro (Later.mk wo (Below.refl _ _))
      rcases oa with _ | ⟨g, o2, sp⟩
      · obtain ⟨ho0, rfl⟩ := honil rfl
        obtain rfl : out = [] := List.length_eq_zero_iff.1 ho0
        clear ho0 hosome honil HOT
        have hd : decide (0 < 0) = false := by simp
        have hjn : (k : Int) < (ss.length : Int) := by omega
        go_wp2
        go_loopw [5] (fun av W => av = .int .i64 0 ∧ Below wo.heap.size wo W) (fun av _ => (intOf av).toNat)
        case atStart => exact ⟨rfl, Below.refl _ _⟩
        case round =>
          obtain ⟨rfl, hW⟩ := hrel
          have HW : Hid (Below wo.heap.size wo wr) := hW
          have hs2 := below_cell hW _ _ hs1
          have hne2 := later_some wr
          have d0 := later_cell hs2
          clear hW
          go_wp2_with fail
          refine wp_region_later (by kernel_rfl) (by kernel_rfl) ?_
          repeat (go_big_quiet_step (fail))
          refine wpQuiet_nil ?_
          intro _ hw'
          obtain ⟨b2, hw''⟩ := hw'
          subst hw''
          have hs3 := d0 b2
          have HW2 : Hid (Below wo.heap.size wo b2.now) := HW.out.trans (b2.below.mono HW.out.size)
          clear d0 hne2 hs2
          have hne3 := later_some b2.now
          have d0 := later_cell hs3
          go_wp2
          refine wp_region_later (by kernel_rfl) (by kernel_rfl) ?_
          repeat (go_big_quiet_step (fail))
          refine wpQuiet_nil ?_
          intro _ hw'
          obtain ⟨b3, hw''⟩ := hw'
          subst hw''
          have HW3 : Hid (Below wo.heap.size wo b3.now) := HW2.out.trans (b3.below.mono HW2.out.size)
          have hs4 := d0 b3
          clear d0 hne3 hs3 HW2 HW
          obtain ⟨W9, hW9⟩ : ∃ W9, b3.now = W9 := ⟨_, rfl⟩
          rw [hW9] at HW3 hs4 ⊢
          clear hW9
          have hB9 : Hid (Below W9.heap.size W9 (W9.alloc (.cells #[] 9))) := (Below.refl _ _).alloc (Nat.le_refl _) _
          have hone : Hid (∀ u ∈ [Value.string ⟨s.toArray⟩], u.oneCell' = true) := by intro u hu; simp at hu; subst hu; rfl
          have hs5 := below_cell hB9.out _ _ hs4
          have hnews : Hid (∀ (i : Nat) (u : Value), [Value.string ⟨s.toArray⟩][i]? = some u → ((W9.alloc (.cells #[] 9)).alloc (.cells #[.string ⟨s.toArray⟩] 9)).cell? ((⟨W9.heap.size + 1, 0, none⟩ : Addr).add i) = some u) := by
            have h := World.news_of_block (heap_alloc_new (W9.alloc (.cells #[] 9)) (.cells #[.string ⟨s.toArray⟩] 9))
            rw [World.size_alloc] at h; exact h
          go_wp2_with (at_builtin; first | (refine wpList_append_own _ rfl (.tmp 50) (.tmp 55) 28 rfl W9.heap.size 9 i0 (.string ⟨#[]⟩) 1 16 Try.underlying28 hi hz0 hz1 hz2 rfl (by decide) _ 0 [] rfl ((own_empty9 W9).alloc _) ⟨W9.heap.size + 1, 0, none⟩ 1 1 [.string ⟨s.toArray⟩] rfl rfl hnews.out hone.out (by decide) (by decide) (by rw [World.size_alloc, World.size_alloc]; omega) ?_; intro v' w1 hown' hgrow _; obtain ⟨g', cap', rfl⟩ := ownsRow_succ hown'; have HG : Hid (((W9.alloc (.cells #[] 9)).alloc (.cells #[.string ⟨s.toArray⟩] 9)).grownBy w1 (some W9.heap.size)) := hgrow; have HO1 : Hid (w1.ownsRow W9.heap.size 9 1 (.slice (some ⟨g', 0, none⟩) 1 cap') 1 [.string ⟨s.toArray⟩]) := hown'; clear hown' hgrow) | (refine wpList_append_own_none rfl (.tmp 57) (.tmp 60) 28 rfl W9.heap.size 9 i0 1 Try.underlying28 hi _ 1 [.string ⟨s.toArray⟩] rfl HO1.out rfl ?_))
          go_roundw
          case rel =>
            have hb1 : Below W9.heap.size W9 w1 := (hB9.out.alloc (by rw [World.size_alloc]; omega) _).grown HG.out (by rw [World.size_alloc, World.size_alloc]; omega) (fun k e => by cases e; exact Nat.le_refl _)
            have hb2 : Below w.heap.size w w1 := HL.out.trans ((HW3.out.trans (hb1.mono HW3.out.size)).mono HL.out.size)
            refine ⟨k + 1, _, [s], by omega, rfl, by go_num, ⟨own_base9 HO1.out (Nat.le_trans HL.out.size HW3.out.size), hb2⟩, by simp [SS], fun x => ?_, by simp⟩
            rw [HSK.out x, ← HM.out x]
            simp
          case measure => simp [intOf]; omega
      · obtain ⟨_, rfl, rfl, _⟩ := hosome g o2 sp rfl
        have hne := Nonempty.intro (Later.mk wo (Below.refl _ _))
        go_wp2
        go_loopw [5] (fun av W => ∃ m : Nat, m ≤ out.length ∧ av = .int .i64 m ∧ Below wo.heap.size wo W ∧ ∀ i (h : i < out.length), m ≤ i → LtN s out[i]) (fun av _ => (intOf av).toNat)
        case atStart => exact ⟨out.length, Nat.le_refl _, rfl, Below.refl _ _, fun i h1 h2 => absurd h1 (by omega)⟩
        case round =>
          obtain ⟨m, hm, rfl, hW, hhi⟩ := hrel
          have HW : Hid (Below wo.heap.size wo wr) := hW
          have HHI : Hid (∀ i (h : i < out.length), m ≤ i → LtN s out[i]) := hhi
          have hs2 := below_cell hW _ _ hs1
          have hne2 := later_some wr
          have d0 := later_cell hs2
          clear hW hhi
          rcases Nat.eq_zero_or_pos m with hm0 | hm0
          case' inl =>
            have hd : decide (0 < m) = false := by simp; omega
            have HLO : Hid (m = 0 ∨ ∃ h : m - 1 < out.length, LtN out[m - 1] s) := .inl hm0
            clear hm0
            go_wp2_with fail
            refine wp_region_later (by kernel_rfl) (by kernel_rfl) ?_
            repeat (go_big_quiet_step (fail))
            refine wpQuiet_nil ?_
            intro _ hw'
            obtain ⟨b2, hw''⟩ := hw'
            subst hw''
            have hs3 := d0 b2
            have HW2 : Hid (Below wo.heap.size wo b2.now) := HW.out.trans (b2.below.mono HW.out.size)
            clear d0 hne2 hs2
            have hne3 := later_some b2.now
            have d0 := later_cell hs3
            go_wp2
            refine wp_region_later (by kernel_rfl) (by kernel_rfl) ?_
            repeat (go_big_quiet_step (fail))
            refine wpQuiet_nil ?_
            intro _ hw'
            obtain ⟨b3, hw''⟩ := hw'
            subst hw''
            have HW3 : Hid (Below wo.heap.size wo b3.now) := HW2.out.trans (b3.below.mono HW2.out.size)
            have hs4 := d0 b3
            clear d0 hne3 hs3 HW2 HW
            obtain ⟨W9, hW9⟩ : ∃ W9, b3.now = W9 := ⟨_, rfl⟩
            rw [hW9] at HW3 hs4 ⊢
            clear hW9
          case' inr =>
            obtain ⟨g2, o2, he2, ho0⟩ := HOT.out.cells (m - 1) (by omega)
            cases he2
            have ho1 := below_cell HW.out _ _ ho0
            obtain ⟨y, hy⟩ : ∃ y, out[m - 1]'(by omega) = y := ⟨_, rfl⟩
            rw [hy, Nat.zero_add] at ho1
            have HY : Hid (∃ h : m - 1 < out.length, out[m - 1] = y) := ⟨by omega, hy⟩
            have e0 := later_cell ho1
            have hL := less_bytes y s
            have hd : decide (0 < m) = true := by simp; omega
            have hk0 : (0 : Int) ≤ (m : Int) - 1 := by omega
            have hkn : (m : Int) - 1 < (out.length : Int) := by omega
            have hj0 : (0 : Int) ≤ (k : Int) := by omega
            have hjn : (k : Int) < (ss.length : Int) := by omega
            clear ho0 hy
            cases h1 : Op.bytesLess y s
            case' false =>
              cases h2 : (y == s)
              case false =>
                have hlt' : Hid (LtN s y) := by
                  rw [h1] at hL
                  exact ltN_total (by simpa [LtN] using hL.symm) (by simpa using h2)
                clear hL
                go_wp2_with fail
                refine wp_region_later (by kernel_rfl) (by kernel_rfl) ?_
                repeat (go_big_quiet_step (fail))
                refine wpQuiet_nil ?_
                intro _ hw'
                obtain ⟨b2, hw''⟩ := hw'
                subst hw''
                have HW2 : Hid (Below wo.heap.size wo b2.now) := HW.out.trans (b2.below.mono HW.out.size)
                clear d0 e0 hne2
                go_wp2
                go_roundw
                case rel => exact ⟨m - 1, by omega, by go_num, HW2.out, fun i h h' => by
                  by_cases e : i = m - 1
                  · subst e; obtain ⟨_, hy⟩ := HY.out; rw [hy]; exact hlt'.out
                  · exact HHI.out i h (by omega)⟩
                case measure => simp [intOf]; omega
              case true =>
                have heq : Hid (y = s) := by show _ = _; simpa using h2
                clear hL
                go_wp2_with fail
                refine wp_region_later (by kernel_rfl) (by kernel_rfl) ?_
                repeat (go_big_quiet_step (fail))
                refine wpQuiet_nil ?_
                intro _ hw'
                obtain ⟨b2, hw''⟩ := hw'
                subst hw''
                have HW2 : Hid (Below wo.heap.size wo b2.now) := HW.out.trans (b2.below.mono HW.out.size)
                have hs3 := d0 b2
                have ho3 := e0 b2
                clear d0 e0 hne2 hs2
                have hne3 := later_some b2.now
                have d0 := later_cell hs3
                have e0 := later_cell ho3
                go_wp2
                refine wp_region_later (by kernel_rfl) (by kernel_rfl) ?_
                repeat (go_big_quiet_step (fail))
                refine wpQuiet_nil ?_
                intro _ hw'
                obtain ⟨b3, hw''⟩ := hw'
                subst hw''
                have HW3 : Hid (Below wo.heap.size wo b3.now) := HW2.out.trans (b3.below.mono HW2.out.size)
                clear d0 e0 hne3 hs3 ho3
                go_wp2
                go_roundw
                case rel =>
                  refine ⟨k + 1, _, out, by omega, rfl, by go_num, ⟨owns_below HR.out HW3.out, HL.out.trans (HW3.out.mono HL.out.size)⟩, HSS.out, fun x => ?_, by omega⟩
                  rw [HSK.out x, HM.out x]
                  constructor
                  · exact .inl
                  · rintro (h | h)
                    · exact h
                    · rw [← HM.out x, h]
                      obtain ⟨hh, hy⟩ := HY.out
                      rw [← heq.out, ← hy]
                      exact List.getElem_mem hh
                case measure => simp [intOf]; omega
            case' true =>
              have h2 : (y == s) = false := by
                have h3 : LtN y s := by rw [h1] at hL; simpa [LtN] using hL.symm
                simp
                intro e
                subst e
                exact ltN_irrefl _ h3
              have HLO : Hid (m = 0 ∨ ∃ h : m - 1 < out.length, LtN out[m - 1] s) := .inr (by
                obtain ⟨hh, hy⟩ := HY.out
                exact ⟨hh, by rw [hy]; rw [h1] at hL; simpa [LtN] using hL.symm⟩)
              clear hL
              go_wp2_with fail
              refine wp_region_later (by kernel_rfl) (by kernel_rfl) ?_
              repeat (go_big_quiet_step (fail))
              refine wpQuiet_nil ?_
              intro _ hw'
              obtain ⟨b2, hw''⟩ := hw'
              subst hw''
              have HW2 : Hid (Below wo.heap.size wo b2.now) := HW.out.trans (b2.below.mono HW.out.size)
              have hs3 := d0 b2
              have ho3 := e0 b2
              clear d0 e0 hne2 hs2
              have hne3 := later_some b2.now
              have d0 := later_cell hs3
              have e0 := later_cell ho3
              go_wp2
              refine wp_region_later (by kernel_rfl) (by kernel_rfl) ?_
              repeat (go_big_quiet_step (fail))
              refine wpQuiet_nil ?_
              intro _ hw'
              obtain ⟨b3, hw''⟩ := hw'
              subst hw''
              have HW3 : Hid (Below wo.heap.size wo b3.now) := HW2.out.trans (b3.below.mono HW2.out.size)
              have hs4 := d0 b3
              clear d0 e0 hne3 hs3 ho3 HW2 HW
              obtain ⟨W9, hW9⟩ : ∃ W9, b3.now = W9 := ⟨_, rfl⟩
              rw [hW9] at HW3 hs4 ⊢
              clear hW9
          all_goals
            have HOT9 : Hid (TextsAt W9 (some ⟨g, 0, none⟩) out.length out) := HOT.out.below HW3.out
            have hB9 : Hid (Below W9.heap.size W9 (W9.alloc (.cells #[] 9))) := (Below.refl _ _).alloc (Nat.le_refl _) _
            have hone : Hid (∀ u ∈ [Value.string ⟨s.toArray⟩], u.oneCell' = true) := by intro u hu; simp at hu; subst hu; rfl
            have hjn : (k : Int) < (ss.length : Int) := by omega
            have bA : 0 + m ≤ maxLen := by show _ ≤ 9223372036854775807; omega
            have bB : (0 + m) * 16 ≤ 140737488355328 := Nat.le_trans (Nat.mul_le_mul_right 16 (show 0 + m ≤ 1048576 by omega)) (by decide)
            have bC : 0 + m + 1 ≤ maxLen := by show _ ≤ 9223372036854775807; omega
            have bD : (0 + m + 1) * 16 ≤ 140737488355328 := Nat.le_trans (Nat.mul_le_mul_right 16 (show 0 + m + 1 ≤ 1048577 by omega)) (by decide)
            have bE : 0 + m + 1 + (out.length - m) ≤ maxLen := by show _ ≤ 9223372036854775807; omega
            have bF : (0 + m + 1 + (out.length - m)) * 16 ≤ 140737488355328 := Nat.le_trans (Nat.mul_le_mul_right 16 (show 0 + m + 1 + (out.length - m) ≤ 1048577 by omega)) (by decide)
            have hmo : m ≤ ocap := by omega
            clear HOT
            have l1 : Hid (((out.take m).map encStr).length = m * 1) := by show _ = _; simp; omega
            have l3 : Hid (((out.drop m).map encStr).length = (out.length - m) * 1) := by show _ = _; simp
            have n1 : Hid (∀ j u, ((out.take m).map encStr)[j]? = some u → (W9.alloc (.cells #[] 9)).cell? ((⟨g, 0, none⟩ : Addr).add j) = some u) := texts_front (HOT9.out.below hB9.out) m
            by_cases hmc : ocap = m
            case' pos =>
              obtain ⟨ad, had⟩ : ∃ ad : Addr, ad = ⟨g, 0, none⟩ := ⟨_, rfl⟩
              have hx3 : Hid (∀ n c, Value.slice (some ⟨g, 0, none⟩) n c = Value.slice (some ad) n c) := by rw [had]; exact fun _ _ => rfl
              have HN3 : Hid (∀ w', Below W9.heap.size W9 w' → ∀ j u, ((out.drop m).map encStr)[j]? = some u → w'.cell? (ad.add j) = some u) := fun w' _ j u hu => by
                have : out.drop m = [] := by rw [List.drop_eq_nil_iff]; omega
                rw [this] at hu; cases hu
            case' neg =>
              obtain ⟨ad, had⟩ : ∃ ad : Addr, ad = ⟨g, m, none⟩ := ⟨_, rfl⟩
              have hx3 : Hid (∀ n c, Value.slice (some ⟨g, m, none⟩) n c = Value.slice (some ad) n c) := by rw [had]; exact fun _ _ => rfl
              have HN3 : Hid (∀ w', Below W9.heap.size W9 w' → ∀ j u, ((out.drop m).map encStr)[j]? = some u → w'.cell? (ad.add j) = some u) := fun w' hb j u hu => by
                rw [had]; exact texts_news (HOT9.out.below hb) m j u hu
            all_goals
              go_wp2_with (at_builtin; first | (refine wpList_append_own _ rfl (.tmp 45) (.tmp 48) 28 rfl W9.heap.size 9 i0 (.string ⟨#[]⟩) 1 16 Try.underlying28 hi hz0 hz1 hz2 rfl (by decide) _ 0 [] rfl (own_empty9 W9) ⟨g, 0, none⟩ m _ ((out.take m).map encStr) rfl l1.out n1.out (enc_one _) bA bB (by rw [World.size_alloc]; omega) ?_; intro v1 w1 hown1 hgrow1 _; have HO1 : Hid (w1.ownsRow W9.heap.size 9 1 v1 (0 + m) ([] ++ (out.take m).map encStr)) := hown1; have B1 : Hid (Below W9.heap.size W9 w1) := hB9.out.grown hgrow1 (by rw [World.size_alloc]; omega) (fun k e => by cases e; exact Nat.le_refl _); have hs5 := below_cell B1.out _ _ hs4; clear hown1 hgrow1 hs4) | (refine wpList_append_own _ rfl (.tmp 50) (.tmp 55) 28 rfl W9.heap.size 9 i0 (.string ⟨#[]⟩) 1 16 Try.underlying28 hi hz0 hz1 hz2 rfl (by decide) _ (0 + m) ([] ++ (out.take m).map encStr) rfl (HO1.out.alloc _) ⟨w1.heap.size, 0, none⟩ 1 1 [.string ⟨s.toArray⟩] rfl rfl (World.news_of_block (heap_alloc_new w1 (.cells #[.string ⟨s.toArray⟩] 9))) hone.out bC bD (by rw [World.size_alloc]; exact Nat.le_succ_of_le B1.out.size) ?_; intro v2 w2 hown2 hgrow2 _; have HO2 : Hid (w2.ownsRow W9.heap.size 9 1 v2 (0 + m + 1) (([] ++ (out.take m).map encStr) ++ [.string ⟨s.toArray⟩])) := hown2; have B2 : Hid (Below W9.heap.size W9 w2) := (B1.out.alloc B1.out.size _).grown hgrow2 (by rw [World.size_alloc]; exact Nat.le_succ_of_le B1.out.size) (fun k e => (owns_cells HO1.out e).1); clear hown2 hgrow2 hs5) | (refine wpList_append_own _ rfl (.tmp 57) (.tmp 60) 28 rfl W9.heap.size 9 i0 (.string ⟨#[]⟩) 1 16 Try.underlying28 hi hz0 hz1 hz2 rfl (by decide) v2 (0 + m + 1) _ rfl HO2.out ad (out.length - m) _ ((out.drop m).map encStr) (hx3.out _ _) l3.out (HN3.out w2 B2.out) (enc_one _) bE bF B2.out.size ?_; intro v3 w3 hown3 hgrow3 _; have HO3 : Hid (w3.ownsRow W9.heap.size 9 1 v3 (0 + m + 1 + (out.length - m)) ((([] ++ (out.take m).map encStr) ++ [Value.string ⟨s.toArray⟩]) ++ (out.drop m).map encStr)) := hown3; have B3 : Hid (Below W9.heap.size W9 w3) := B2.out.grown hgrow3 B2.out.size (fun k e => (owns_cells HO2.out e).1); clear hown3 hgrow3))
              clear hx3 had HN3
              go_roundw
              case rel =>
                have hb2 : Below w.heap.size w w3 := HL.out.trans ((HW3.out.trans (B3.out.mono HW3.out.size)).mono HL.out.size)
                refine ⟨k + 1, _, out.take m ++ [s] ++ out.drop m, by omega, rfl, by go_num, ⟨?_, hb2⟩, ss_insert HSS.out hm HHI.out HLO.out, fun x => ?_, ?_⟩
                · have h := own_base9 HO3.out (Nat.le_trans HL.out.size HW3.out.size)
                  have e1 : (out.take m ++ [s] ++ out.drop m).length = 0 + m + 1 + (out.length - m) := by simp; omega
                  have e2 : (out.take m ++ [s] ++ out.drop m).map encStr = (([] ++ (out.take m).map encStr) ++ [Value.string ⟨s.toArray⟩]) ++ (out.drop m).map encStr := by simp [encStr]
                  rw [e1, e2]
                  exact h
                · rw [HSK.out x, ← HM.out x, mem_insert]
                · simp; omega
              case measure => simp [intOf]; omega
    · have e1 : k = ss.length := by omega
      have hv : Hid (out = Lib.compact (sortL ss)) := vars_unique HSS.out (fun x => by rw [HM.out x, e1, List.take_length])
      go_wp2
      go_ret
      exact ⟨v, rfl, by rw [← hv.out]; exact HR.out, HL.out⟩
end Go.Proofs.Ytgidgmgpgfonnaa
/- Of right terms: the order's nought is to be alike in every field. -/
namespace Go.Proofs.Ytgidgmgpgfonnaa
open Go.RowKit Go.Deep

theorem names_iff (a b : ByteArray) : a.toList = b.toList ↔ a = b := by
  constructor
  · intro h
    rw [ByteArray.toList_eq, ByteArray.toList_eq] at h
    exact bytes_eq h
  · rintro rfl; rfl
theorem cmpS_self {a : ByteArray} (h : noName a = false) : cmpS a a = 0 := by
  have := cmpN_anti ((a, 0), .nil) ((a, 0), .nil)
  have e : cmpN ((a, 0), .nil) ((a, 0), .nil) = cmpS a a := by unfold cmpN cmp1; rw [if_pos h, if_pos h]
  rw [e] at this
  omega
theorem right1_ex {S : Sg} {ar : Int → Nat} {x y : ByteArray × Int} {n m : Nat} {deep : Int} {ex : Bool} (hx : nodeOk S ar x n) (hy : nodeOk S ar y m) (hz : n = 0 → ex = true) (hd : n = m → (deep = 0 ↔ ex = true)) :
    cmp1 x y n m deep = 0 ↔ (((x.1.toList == y.1.toList) && (x.2 == y.2) && (n == m) && ex) = true) := by
  simp only [Bool.and_eq_true, beq_iff_eq, names_iff]
  unfold nodeOk at hx hy
  unfold cmp1
  cases e1 : noName x.1 <;> cases e2 : noName y.1 <;> simp only [e1, e2, if_true, if_false, Bool.true_eq_false] at hx hy ⊢
  · constructor
    · intro h
      exact ⟨⟨⟨bytes_eq (bytes_zero h), hx.1.trans hy.1.symm⟩, hx.2.trans hy.2.symm⟩, hz hx.2⟩
    · rintro ⟨⟨⟨h, _⟩, _⟩, _⟩
      rw [h]
      exact cmpS_self e2
  · constructor
    · intro h; omega
    · rintro ⟨⟨⟨h, _⟩, _⟩, _⟩
      rw [h, e2] at e1
      cases e1
  · constructor
    · intro h; omega
    · rintro ⟨⟨⟨h, _⟩, _⟩, _⟩
      rw [h, e2] at e1
      cases e1
  · have hn : x.1 = y.1 := (noName_eq e1).trans (noName_eq e2).symm
    by_cases h1 : x.2 = y.2
    · rw [if_pos h1]
      by_cases h2 : n = m
      · rw [if_pos h2, hd h2]
        simp [hn, h1, h2]
      · rw [if_neg h2]
        constructor
        · intro h; exact absurd (by have := compareInt_zero h; omega) h2
        · rintro ⟨⟨_, h⟩, _⟩; exact absurd h h2
    · rw [if_neg h1]
      constructor
      · intro h; exact absurd (compareInt_zero h) h1
      · rintro ⟨⟨⟨_, h⟩, _⟩, _⟩; exact absurd h h1
theorem exF_nil {F G : Fo} (h : lenF F = 0) : exF F G = true := by rw [len_nil h]; cases G <;> rfl
theorem rightF_ex {S : Sg} {ar : Int → Nat} : ∀ {F G : Fo}, RightF S ar F → RightF S ar G → lenF F = lenF G → (cmpF F G = 0 ↔ exF F G = true)
  | .nil, _, _, _, _ => by simp [cmpF, exF]
  | .node _ _ _ _ _, .nil, _, _, h => by simp [lenF] at h
  | .node _ _ x l r, .node _ _ y m s, hF, hG, h => by
    simp only [lenF, Nat.add_right_cancel_iff] at h
    obtain ⟨⟨h1, h2⟩, h3⟩ := hF
    obtain ⟨⟨k1, k2⟩, k3⟩ := hG
    have i1 := right1_ex (deep := cmpF l m) (ex := exF l m) h1 k1 (fun e => exF_nil e) (fun e => rightF_ex h2 k2 e)
    have i2 := rightF_ex h3 k3 h
    rw [cmpF, thenC, exF, Bool.and_eq_true, ← i1, ← i2]
    by_cases hz : cmp1 x y (lenF l) (lenF m) (cmpF l m) = 0
    · simp [hz]
    · simp [hz]
theorem right_ex {S : Sg} {ar : Int → Nat} {x y : Tn} (hx : RightT S ar x) (hy : RightT S ar y) : (cmpN x y == 0) = exN x.1 y.1 x.2 y.2 := by
  have := right1_ex (deep := cmpF x.2 y.2) (ex := exF x.2 y.2) hx.1 hy.1 (fun e => exF_nil e) (fun e => rightF_ex hx.2 hy.2 e)
  unfold cmpN exN
  rw [Bool.eq_iff_iff, beq_iff_eq]
  exact this
theorem is_same {l : List Sym} {t r : Tn} (h : rightB l t = true) (hr : CanR l t r) : (cmpN t r == 0) = exN (canonT (sgOf l) t).1 t.1 (canonT (sgOf l) t).2 t.2 := by
  obtain ⟨h1, h2⟩ := right_facts h
  rw [hr.2 h1 h2, ← right_ex (right_of_can (canonT_can h1 h2)) h2]
  have := cmpN_anti t (canonT (sgOf l) t)
  rw [Bool.eq_iff_iff, beq_iff_eq, beq_iff_eq]
  omega
theorem exN_self (x : Tn) : exN x.1 x.1 x.2 x.2 = true := by
  have go : ∀ F : Fo, exF F F = true := by
    intro F
    induction F with
    | nil => rfl
    | node _ _ x l r ihl ihr => simp [exF, ihl, ihr]
  unfold exN
  simp [go]
end Go.Proofs.Ytgidgmgpgfonnaa
/- Plain: what binds are that Check finds right. -/
namespace Go.Proofs.Ytgidgmgpgfonnaa
open Go.RowKit Go.Deep

theorem leS_lt {a b : ByteArray} (h : leS a b = false) : LtN b.data.toList a.data.toList := by
  unfold leS at h
  rw [Bool.or_eq_false_iff, less_bytes, decide_eq_false_iff_not, beq_eq_false_iff_ne, ByteArray.toList_eq, ByteArray.toList_eq] at h
  exact ltN_total h.1 h.2
/-- A substitution by a right signature. -/
structure SubOk (sg : List Sym) (bs : List Bn) : Prop where
  up : bs.Pairwise fun x y => LtN x.1.data.toList y.1.data.toList
  var : ∀ b ∈ bs, varB b.1 = true
  self : ∀ b ∈ bs, (b.2.1.1.toList == b.1.toList) = false
  few : ∀ b ∈ bs, nodesF b.2.2 + 1 ≤ 400
  right : ∀ b ∈ bs, rightB sg b.2 = true
  can : ∀ b ∈ bs, exN (canonT (sgOf sg) b.2).1 b.2.1 (canonT (sgOf sg) b.2).2 b.2.2 = true
theorem bdE_ok {sg : List Sym} {p : Option ByteArray} {x : Bn} (h : bdE sg p x = 0) : badV p x = false ∧ nodesF x.2.2 + 1 ≤ 400 ∧ rightB sg x.2 = true ∧ exN (canonT (sgOf sg) x.2).1 x.2.1 (canonT (sgOf sg) x.2).2 x.2.2 = true := by
  unfold bdE at h
  by_cases h1 : badV p x = true
  · rw [if_pos h1] at h; cases h
  · rw [if_neg h1] at h
    by_cases h2 : 400 < nodesF x.2.2 + 1
    · rw [if_pos h2] at h; cases h
    · rw [if_neg h2] at h
      by_cases h3 : rightB sg x.2 = false
      · rw [if_pos h3] at h; cases h
      · rw [if_neg h3] at h
        by_cases h4 : exN (canonT (sgOf sg) x.2).1 x.2.1 (canonT (sgOf sg) x.2).2 x.2.2 = false
        · rw [if_pos h4] at h; cases h
        · exact ⟨by simpa using h1, by omega, by simpa using h3, by simpa using h4⟩
theorem chk_ok {sg : List Sym} : ∀ (bs : List Bn) (p : Option ByteArray) (i : Nat), (chkB sg bs p i).1 = 0 → SubOk sg bs ∧ ∀ q, p = some q → ∀ b ∈ bs, LtN q.data.toList b.1.data.toList
  | [], _, _, _ => ⟨⟨List.Pairwise.nil, by simp, by simp, by simp, by simp, by simp⟩, fun _ _ b hb => by cases hb⟩
  | x :: r, p, i, h => by
    unfold chkB at h
    by_cases hx : bdE sg p x = 0
    · rw [if_pos hx] at h
      obtain ⟨ih, hup⟩ := chk_ok r (some x.1) (i + 1) h
      obtain ⟨h1, h2, h3, h4⟩ := bdE_ok hx
      unfold badV at h1
      simp only [Bool.or_eq_false_iff, Bool.not_eq_false'] at h1
      obtain ⟨⟨hv, hl⟩, hs⟩ := h1
      have up1 : ∀ b ∈ r, LtN x.1.data.toList b.1.data.toList := hup x.1 rfl
      refine ⟨⟨List.pairwise_cons.2 ⟨up1, ih.up⟩, ?_, ?_, ?_, ?_, ?_⟩, fun q hq b hb => ?_⟩
      · intro b hb
        rcases List.mem_cons.1 hb with rfl | hb
        · exact hv
        · exact ih.var b hb
      · intro b hb
        rcases List.mem_cons.1 hb with rfl | hb
        · exact hs
        · exact ih.self b hb
      · intro b hb
        rcases List.mem_cons.1 hb with rfl | hb
        · exact h2
        · exact ih.few b hb
      · intro b hb
        rcases List.mem_cons.1 hb with rfl | hb
        · exact h3
        · exact ih.right b hb
      · intro b hb
        rcases List.mem_cons.1 hb with rfl | hb
        · exact h4
        · exact ih.can b hb
      · subst hq
        have hx1 := leS_lt hl
        rcases List.mem_cons.1 hb with rfl | hb
        · exact hx1
        · exact ltN_trans hx1 (up1 b hb)
    · rw [if_neg hx] at h
      exact absurd h hx
theorem SubOk.nodup {sg : List Sym} {bs : List Bn} (h : SubOk sg bs) : (bs.map (·.1)).Nodup := by
  rw [List.nodup_iff_pairwise_ne, List.pairwise_map]
  exact h.up.imp fun {x y} hlt e => by rw [e] at hlt; exact ltN_irrefl _ hlt
theorem SubOk.rights {sg : List Sym} {bs : List Bn} (h : SubOk sg bs) : ∀ b ∈ bs, RightT (sgOf sg) (arAt sg) b.2 := fun b hb => (right_facts (h.right b hb)).2
end Go.Proofs.Ytgidgmgpgfonnaa
/- What Parts of package canon answers. -/
namespace Go.Proofs.Ytgidgmgpgfonnaa
open Go.RowKit Go.Deep

/-- A list of new terms that a slice holds, none of which shares a block with another. -/
structure NewL (B : Nat) (w : World) (a : Option Addr) (c : Nat) (ks : List Kv) : Prop where
  row : RowAt w a ks.length ks
  gl : GL SepE w ks (fun q => B ≤ q ∧ ∀ b o, a = some ⟨b, o, none⟩ → q ≠ b)
  nil : a = none → c = 0
  new : ∀ b o, a = some ⟨b, o, none⟩ → B ≤ b
  cap : ks.length ≤ c ∧ c ≤ maxLen
theorem newL_clone {w : World} {B : Nat} {x : ByteArray × Int} {a : Option Addr} {c : Nat} {F : Fo} (h : SepTm w (fun q => B ≤ q) x a c F) (hz : lenF F = 0 → a = none ∧ c = 0) : ∃ ks : List Kv, ks.map Kv.tn = kidsL F ∧ ks.length = lenF F ∧ NewL B w a c ks := by
  rcases h.list with e | ⟨g, cur, e1, e2, e3, e4⟩
  · subst e
    obtain ⟨rfl, rfl⟩ := hz rfl
    exact ⟨[], rfl, rfl, RowAt.empty _ _, trivial, fun _ => rfl, (fun b o e => by cases e), Nat.le_refl _, Nat.zero_le _⟩
  · subst e1
    obtain ⟨ks, k1, k2, k3⟩ := sepKids_list e4
    have hl : ks.length = lenF F := by have := congrArg List.length k1; rwa [List.length_map, kids_len] at this
    exact ⟨ks, k1, hl, ⟨rfl, fun j u hu => ⟨g, 0, rfl, k2 j u hu⟩⟩, k3.mono (fun q hq => ⟨hq.1, fun b o e => by cases e; exact hq.2⟩), (fun e => by cases e), (fun b o e => by cases e; exact e2), by rw [hl]; exact h.sizes.len, h.sizes.cap⟩
theorem parts_eq (l : List Sym) (f : Int) (t : Tn) : partsN (sgOf l) f t = if (!decide (kindK l f = 1) && headed f t) = true then kidsL t.2 else if isUnB l f t then [] else [t] := by
  rw [isUnB_eq]
  have hk := kindK_ok l f
  unfold partsN
  by_cases h1 : kindK l f = 1
  · have hj := hk.free.1 h1
    have hu : isUn (sgOf l) f t = false := by
      have : unitAt l f = none := by
        by_cases hin : 0 ≤ f ∧ f.toNat < l.length
        · obtain ⟨n, rfl⟩ := Int.eq_ofNat_of_zero_le hin.1
          have hn : n < l.length := by simpa using hin.2
          refine unit_not hn ?_
          unfold kindK at h1
          rw [symAt_in hn] at h1
          dsimp only at h1
          intro e
          rw [e] at h1
          simp at h1
        · exact unit_out hin
      unfold isUn
      show (match (unitAt l f).map (fun (i : Nat) => (i : Int)) with | some u => isConst t u | none => false) = false
      rw [this]
      rfl
    rw [hj, hu]
    simp [h1]
  · have hj : (sgOf l).joins f = true := by
      cases h : (sgOf l).joins f with
      | true => rfl
      | false => exact absurd (hk.free.2 h) h1
    rw [hj]
    cases hu : isUn (sgOf l) f t with
    | false => simp [h1]
    | true =>
      obtain ⟨u, _, rfl⟩ := isUn_some hu
      cases hh : headed f (constT u) <;> simp [h1, constT, kidsL]

theorem field2 (s : ByteArray) (i : Int) (a : Option Addr) (n c : Nat) (W : World) : (Instr.field 27 (.agg #[.string s, .int .i64 i, .slice a n c]) 2).run Try.prog W = .ok (.slice a n c) W := by kernel_rfl

end Go.Proofs.Ytgidgmgpgfonnaa
/- What Join of package canon answers. -/
namespace Go.Proofs.Ytgidgmgpgfonnaa
open Go.RowKit Go.Deep

def joinB (l : List Sym) (f : Int) (n : Nat) : Bool := !decide (kindK l f = 1) && (!(n == 0) || unitOk l f)
/-- What is joined: of right terms the canonical term; no greater than they are, whatever they are. -/
def JoinR (l : List Sym) (f : Int) (ts : List Tn) (b : Bool) (r : Tn) : Prop :=
  sizeT r ≤ sizes ts + 1 ∧ (b = false → r = constT 0) ∧ ((sgOf l).Ok (arAt l) → (∀ t ∈ ts, RightT (sgOf l) (arAt l) t) → joinN (sgOf l) f (ts.map (canonT (sgOf l))) = if b then some r else none)
theorem joinR_no {l : List Sym} {f : Int} {ts : List Tn} (h : joinB l f ts.length = false) : JoinR l f ts false (constT 0) := by
  refine ⟨by simp [sizeT, constT, nodesF], fun _ => rfl, fun _ _ => ?_⟩
  unfold joinB at h
  unfold joinN
  simp only [Bool.false_eq_true, if_false]
  by_cases hk : kindK l f = 1
  · rw [if_pos ((kindK_ok l f).free.1 hk)]
  · simp only [hk, decide_false, Bool.not_false, Bool.true_and, Bool.or_eq_false_iff, Bool.not_eq_false', beq_iff_eq] at h
    obtain ⟨h1, h2⟩ := h
    have hts : ts = [] := List.length_eq_zero_iff.1 h1
    subst hts
    split
    · rfl
    · show ((unitAt l f).map _).map constT = none
      unfold unitOk at h2
      rw [Option.isSome_eq_false_iff, Option.isNone_iff_eq_none] at h2
      rw [h2]
      rfl
theorem joinR_yes {l : List Sym} {f : Int} {F : Fo} {rs : List Tn} {r r' : Tn} (h : joinB l f (lenF F) = true) (ha : All2 (LooseR (sgOf l) (arAt l)) (kidsL F) rs) (hl : LayR (sgOf l) (kindK l f) f (unitI l f) rs r) (hs : SetR (sgOf l) r r') : JoinR l f (kidsL F) true r' := by
  refine ⟨?_, (fun e => by cases e), fun hS hR => ?_⟩
  · rw [set_size hs]
    have h1 := lay_size hl
    have h2 := loose_sizes ha
    omega
  · have hk := kindK_ok l f
    unfold joinB at h
    rw [Bool.and_eq_true, Bool.or_eq_true] at h
    obtain ⟨h1, h2⟩ := h
    have hj : (sgOf l).joins f = true := by
      cases hj : (sgOf l).joins f with
      | true => rfl
      | false => have := hk.free.2 hj; simp [this] at h1
    have hn : kidsL F ≠ [] ∨ (sgOf l).unit f ≠ none := by
      rcases h2 with h2 | h2
      · left
        intro e
        have := congrArg List.length e
        rw [kids_len] at this
        simp [this] at h2
      · right
        intro e
        have e : (unitAt l f).map (fun (i : Nat) => (i : Int)) = none := e
        rw [Option.map_eq_none_iff] at e
        unfold unitOk at h2
        rw [e] at h2
        cases h2
    obtain ⟨c, c1, c2⟩ := lay_join hS hk hj hR ha hl hn
    unfold joinN
    rw [if_neg (by rw [hj]; simp), List.flatMap_map]
    have e : (fun a => partsN (sgOf l) f (canonT (sgOf l) a)) = pc (sgOf l) f := rfl
    rw [e, c1]
    have hcan : CanT (sgOf l) (arAt l) c := join_can hS hj (fun p hp => by
      obtain ⟨t, ht, hp⟩ := List.mem_flatMap.1 hp
      exact parts_good hj (canonT_can hS (hR t ht)) p hp) c1
    rw [mod_set hcan c2 hs]
    rfl

end Go.Proofs.Ytgidgmgpgfonnaa
/- What the statements' own 'right' answers of a signature, two terms and a list. -/
namespace Go.Proofs.Ytgidgmgpgfonnaa
open Go.RowKit Go.Deep

/-- What a statement is asked about, in memory. -/
structure TwoAt (w : World) (S : Option Addr) (n : Nat) (l : List Sym) (A B : Tn) (a b : Option Addr) (c d : Nat) (La : Option Addr) (F : Fo) : Prop where
  sig : SigAt w S n l
  a : TmAt w A.1 a c A.2
  b : TmAt w B.1 b d B.2
  l : ArgsAt w La F
  few : lenF F * 48 ≤ 140737488351232
set_option maxRecDepth 100000 in
theorem TwoAt.below {w w' : World} {S : Option Addr} {n : Nat} {l : List Sym} {A B : Tn} {a b : Option Addr} {c d : Nat} {La : Option Addr} {F : Fo} (h : TwoAt w S n l A B a b c d La F) (hb : Below w.heap.size w w') : TwoAt w' S n l A B a b c d La F :=
  ⟨h.sig.below hb, h.a.below hb, h.b.below hb, h.l.below hb, h.few⟩
def twoC (S : Option Addr) (n cap : Nat) (A B : Tn) (a b : Option Addr) (c d : Nat) (f : Int) (La : Option Addr) (F : Fo) (lc : Nat) : Array Value :=
  #[.slice S n cap, .string A.1.1, .int .i64 A.1.2, .slice a (lenF A.2) c, .string B.1.1, .int .i64 B.1.2, .slice b (lenF B.2) d, .int .i64 f, .slice La (lenF F) lc]
/-- The box of it. -/
def WBox (W : World) (g : Nat) (cs : Array Value) : Prop := W.heap[g]? = some (.cells cs 28 (0, 0))
set_option maxRecDepth 100000 in
theorem WBox.below {W W' : World} {g : Nat} {cs : Array Value} (h : WBox W g cs) (hb : Below W.heap.size W W') : WBox W' g cs := (hb.block g (Array.getElem?_eq_some_iff.1 h).1).trans h
set_option maxRecDepth 100000 in
theorem WBox.c {W : World} {g : Nat} {cs : Array Value} (h : WBox W g cs) (k : Nat) {v : Value} (hv : cs[k]? = some v) : W.cell? ⟨g, k, none⟩ = some v := by simp [World.cell?, show W.heap[g]? = _ from h, hv]

end Go.Proofs.Ytgidgmgpgfonnaa
/- What the statements' own 'app' answers: a symbol's term of copies. -/
namespace Go.Proofs.Ytgidgmgpgfonnaa
open Go.RowKit Go.Deep

set_option maxRecDepth 100000 in
theorem Lst.set {B : Nat} {W : World} {v : Value} {ks : List Kv} (h : Lst B W v ks) {p : Addr} (hp : p.block < B) (u : Value) : Lst B (W.setCell p u) v ks :=
  ⟨owns_block h.row (fun q hq => by have := (owns_cells h.row hq).1; exact Below.heap_setCell W p u q (by omega)), fun k hk => (h.own k hk).keep (fun q hq _ => Below.heap_setCell W p u q (by omega))⟩
/-- The boxes of the answer and of what is built. -/
structure Duo (w : World) (x : ByteArray × Int) (W : World) (v : Value) : Prop where
  low : Below w.heap.size w W
  r : XBox W w.heap.size (⟨#[]⟩, 0) (.slice none 0 0)
  x : XBox W (w.heap.size + 1) x v
set_option maxRecDepth 100000 in
theorem duo_new (w : World) (x : ByteArray × Int) : Duo w x ((w.alloc (.cells #[.string ⟨#[]⟩, .int .i64 0, .slice none 0 0] 27)).alloc (.cells #[.string x.1, .int .i64 x.2, .slice none 0 0] 27)) (.slice none 0 0) :=
  ⟨((Below.refl _ w).alloc (Nat.le_refl _) _).alloc (by simp) _, XBox.below (W := w.alloc (.cells #[.string ⟨#[]⟩, .int .i64 0, .slice none 0 0] 27)) (World.alloc_heap_new w _) ((Below.refl _ _).alloc (Nat.le_refl _) _), heap_alloc2_new w _ _⟩

end Go.Proofs.Ytgidgmgpgfonnaa
/- An AC or ACU symbol's term of two right terms or more is right; the unit's constant is. -/
namespace Go.Proofs.Ytgidgmgpgfonnaa
open Go.RowKit Go.Deep

set_option maxRecDepth 100000 in
theorem errF_mk {S : List Sym} : ∀ {l : List Tn}, (∀ t ∈ l, errT S t.1 t.2 = 0) → errF S (mkF l) = 0
  | [], _ => rfl
  | t :: r, h => by
    rw [mkF, errF, show thenC (nodeErr S t.1 (lenF t.2)) (errF S t.2) = 0 from h t List.mem_cons_self, errF_mk (fun k hk => h k (List.mem_cons_of_mem _ hk))]
    rfl
set_option maxRecDepth 100000 in
theorem rightB_app {S : List Sym} {k : Nat} (hk : k < S.length) (hj : S[k].kind ≠ 1) {l : List Tn} (h2 : 2 ≤ l.length) (hc : checkE S = 0) (h : ∀ t ∈ l, rightB S t = true) : rightB S (appT (k : Int) l) = true := by
  have he : ∀ t ∈ l, errT S t.1 t.2 = 0 := fun t ht => by
    have := h t ht
    unfold rightB at this
    simp only [Bool.and_eq_true, beq_iff_eq] at this
    exact this.2
  have hn : nodeErr S (noB, (k : Int)) (lenF (mkF l)) = 0 := by
    rw [nodeErr_in noName_noB (by show (0 : Int) ≤ (k : Int); omega) (by show (k : Int).toNat < S.length; omega)]
    rw [if_pos]
    unfold takesB
    rw [if_neg (by simpa using hj), len_mk]
    simpa using h2
  unfold rightB appT errT
  dsimp only
  rw [hn, errF_mk he, hc]
  rfl
set_option maxRecDepth 100000 in
/-- The place of an AC or ACU symbol of a right signature joins. -/
theorem joins_of {S : List Sym} (hc : checkE S = 0) {k : Nat} (hk : k < S.length) (hj : S[k].kind ≠ 1) : (sgOf S).joins (k : Int) = true := by
  show joinsAt S (k : Int) = true
  unfold joinsAt
  rw [symAt_in hk]
  have := (symErr_zero (right_each hc hk)).2.1
  unfold kindB at this
  simpa [hj] using this
set_option maxRecDepth 100000 in
theorem rightB_const {S : List Sym} (hc : checkE S = 0) {f : Int} {i : Nat} (hu : unitAt S f = some i) : rightB S (constT (i : Int)) = true := by
  obtain ⟨hi, hk, ha⟩ := unit_facts hc hu
  have hn : nodeErr S (noB, (i : Int)) 0 = 0 := by
    rw [nodeErr_in noName_noB (by show (0 : Int) ≤ (i : Int); omega) (by show (i : Int).toNat < S.length; omega)]
    rw [if_pos]
    unfold takesB
    have e : S[(noB, (i : Int)).2.toNat]'(by show (i : Int).toNat < S.length; omega) = S[i] := by simp
    rw [e, if_pos hk, ha]
    rfl
  unfold rightB constT errT
  dsimp only
  rw [show lenF (BT.nil : Fo) = 0 from rfl, hn, hc]
  rfl
end Go.Proofs.Ytgidgmgpgfonnaa
/- What Head of the statements answers: true. -/
namespace Go.Proofs.Ytgidgmgpgfonnaa
open Go.RowKit Go.Deep

def bA : ByteArray := ⟨#[97]⟩
def bOne : ByteArray := ⟨#[111, 110, 101]⟩
def bF : ByteArray := ⟨#[102]⟩
def bPlus : ByteArray := ⟨#[112, 108, 117, 115]⟩
def bTimes : ByteArray := ⟨#[116, 105, 109, 101, 115]⟩
def bX : ByteArray := ⟨#[88]⟩
def someL : List Sym := [⟨bA, 1, 0, ⟨#[]⟩⟩, ⟨bOne, 1, 0, ⟨#[]⟩⟩, ⟨bF, 1, 2, ⟨#[]⟩⟩, ⟨bPlus, 2, 2, ⟨#[]⟩⟩, ⟨bTimes, 3, 2, bOne⟩]

def headX : Tn := ((⟨#[]⟩, 4), .node 0 0 (⟨#[]⟩, 0) .nil (.node 0 0 (⟨#[]⟩, 4) (.node 0 0 (bX, 0) .nil (.node 0 0 (⟨#[]⟩, 1) .nil .nil)) .nil))
def headYF : Fo := .node 0 0 (bX, 0) .nil (.node 0 0 (⟨#[]⟩, 0) .nil .nil)
def headY : Tn := ((⟨#[]⟩, 4), headYF)
theorem some_ok : (sgOf someL).Ok (arAt someL) := sg_ok (by decide +kernel)
theorem head_right : RightT (sgOf someL) (arAt someL) headX := errT_right (x := (⟨#[]⟩, 4)) (by decide +kernel) (by decide +kernel)
theorem head_canon : canonT (sgOf someL) headX = headY := by kernel_rfl
theorem headY_canon : canonT (sgOf someL) headY = headY := by rw [← head_canon]; exact canonT_twice some_ok head_right
theorem headY_right : RightT (sgOf someL) (arAt someL) headY := by rw [← head_canon]; exact right_of_can (canonT_can some_ok head_right)

set_option maxRecDepth 100000 in
theorem some_any (w : World) : Calls Try.prog 26 #[] w fun e w' => ∃ g, e = .returned (.slice (some ⟨g, 0, none⟩) 5 5) ∧ SigAt w' (some ⟨g, 0, none⟩) 5 someL ∧ Below w.heap.size w w' := by
  go_enter Try.func26, Try.ntmps26
  go_wp2
  go_ret
  refine ⟨w.heap.size, rfl, ⟨rfl, by decide, fun i hi => ⟨w.heap.size, 0, rfl, ?_⟩, ?_⟩, (Below.refl _ w).alloc (Nat.le_refl _) _⟩
  · have hb := Box.new w 80 #[.string bA, .int .i64 1, .int .i64 0, .string ⟨#[]⟩, .string bOne, .int .i64 1, .int .i64 0, .string ⟨#[]⟩, .string bF, .int .i64 1, .int .i64 2, .string ⟨#[]⟩, .string bPlus, .int .i64 2, .int .i64 2, .string ⟨#[]⟩, .string bTimes, .int .i64 3, .int .i64 2, .string bOne]
    have hi : i < 5 := hi
    match i, hi with
    | 0, _ => exact ⟨hb.c 0, hb.c 1, hb.c 2, hb.c 3⟩
    | 1, _ => exact ⟨hb.c 4, hb.c 5, hb.c 6, hb.c 7⟩
    | 2, _ => exact ⟨hb.c 8, hb.c 9, hb.c 10, hb.c 11⟩
    | 3, _ => exact ⟨hb.c 12, hb.c 13, hb.c 14, hb.c 15⟩
    | 4, _ => exact ⟨hb.c 16, hb.c 17, hb.c 18, hb.c 19⟩
  · intro x hx
    simp only [someL, List.mem_cons, List.not_mem_nil, or_false] at hx
    rcases hx with rfl | rfl | rfl | rfl | rfl <;> exact ⟨by decide, by decide⟩

end Go.Proofs.Ytgidgmgpgfonnaa
/- What head of the statements of layer 7 answers: true. -/
namespace Go.Proofs.Ytgidgmgpgfonnaa
open Go.RowKit Go.Deep

def bY : ByteArray := ⟨#[89]⟩
def hdA : Fo := .node 0 0 (bY, 0) .nil (.node 0 0 (⟨#[]⟩, 0) .nil .nil)
def hdB : List Bn := [(bX, ((⟨#[]⟩, 3), hdA))]
def hdT : Fo := .node 0 0 (bX, 0) .nil (.node 0 0 (bX, 0) .nil .nil)
def hdP : Tn := putN (lkB hdB) (⟨#[]⟩, 3) hdT
def hdYF : Fo := .node 0 0 (bY, 0) .nil (.node 0 0 (bY, 0) .nil (.node 0 0 (⟨#[]⟩, 0) .nil (.node 0 0 (⟨#[]⟩, 0) .nil .nil)))
def hdY : Tn := ((⟨#[]⟩, 3), hdYF)
theorem hd_left : (0 : Int) ≤ leftN (lkB hdB) (⟨#[]⟩, 3) hdT 400 := by decide +kernel
theorem hd_right : RightT (sgOf someL) (arAt someL) hdP := errT_right (x := hdP.1) (by decide +kernel) (by decide +kernel)
theorem hd_canon : canonT (sgOf someL) hdP = hdY := by kernel_rfl
set_option maxRecDepth 100000 in
set_option maxHeartbeats 4000000 in
theorem shead_any (w : World) : Calls Try.prog 6 #[] w fun e w' => e = .returned (.bool true) ∧ Below w.heap.size w w' := by
  obtain ⟨W0, hW0⟩ : ∃ W0, (w.alloc (.cells #[.string ⟨#[89]⟩, .int .i64 0, .slice none 0 0, .string ⟨#[]⟩, .int .i64 0, .slice none 0 0] 27)).alloc (.cells #[.string ⟨#[88]⟩, .string ⟨#[]⟩, .int .i64 3, .slice (some ⟨w.heap.size, 0, none⟩) 2 2] 50) = W0 := ⟨_, rfl⟩
  have hb0 : Below w.heap.size w W0 := by rw [← hW0]; exact ((Below.refl _ w).alloc (Nat.le_refl _) _).alloc (by simp) _
  have B0 : Box W0 w.heap.size 27 #[.string ⟨#[89]⟩, .int .i64 0, .slice none 0 0, .string ⟨#[]⟩, .int .i64 0, .slice none 0 0] := by
    rw [← hW0]
    exact (Box.new w 27 _).below ((Below.refl _ _).alloc (Nat.le_refl _) _)
  have B1 : Box W0 (w.heap.size + 1) 50 #[.string ⟨#[88]⟩, .string ⟨#[]⟩, .int .i64 3, .slice (some ⟨w.heap.size, 0, none⟩) 2 2] := by
    have := Box.new (w.alloc (.cells #[.string ⟨#[89]⟩, .int .i64 0, .slice none 0 0, .string ⟨#[]⟩, .int .i64 0, .slice none 0 0] 27)) 50 #[.string ⟨#[88]⟩, .string ⟨#[]⟩, .int .i64 3, .slice (some ⟨w.heap.size, 0, none⟩) 2 2]
    rw [World.size_alloc] at this
    rw [← hW0]
    exact this
  have HT1 : TmAt W0 (⟨#[]⟩, 3) (some ⟨w.heap.size, 0, none⟩) 2 hdA :=
    ⟨⟨by decide, by decide, by decide, by decide⟩, .inr ⟨_, _, rfl, ⟨none, 0, B0.c 0, B0.c 1, B0.c 2, ⟨by decide, by decide, by decide, by decide⟩, .inl rfl⟩, ⟨none, 0, B0.c 3, B0.c 4, B0.c 5, ⟨by decide, by decide, by decide, by decide⟩, .inl rfl⟩, trivial⟩⟩
  have HBI : Hid (BindsAt W0 (some ⟨w.heap.size + 1, 0, none⟩) 1 hdB) := hid ⟨rfl, by decide, fun i hi => by
    have hi : i < 1 := hi
    match i, hi with
    | 0, _ => exact ⟨w.heap.size + 1, 0, some ⟨w.heap.size, 0, none⟩, 2, rfl, ⟨B1.c 0, B1.c 1, B1.c 2, B1.c 3, HT1⟩⟩, fun x hx => by
      simp only [hdB, List.mem_singleton] at hx
      subst hx
      decide⟩
  have HL0 := hid hb0
  clear HT1 B0 B1 hb0
  go_enter Try.func6, Try.ntmps6
  go_upto_region 2 with fail
  clear hW0
  go_wp2_with fail
  refine (some_any _).mono ?_
  rintro e w1 ⟨g1, rfl, hs1, hb1⟩
  have b2 := alloc_below0 w1 (.cells #[.string ⟨#[88]⟩, .int .i64 0, .slice none 0 0, .string ⟨#[88]⟩, .int .i64 0, .slice none 0 0] 27)
  have B2 := Box.new w1 27 #[.string ⟨#[88]⟩, .int .i64 0, .slice none 0 0, .string ⟨#[88]⟩, .int .i64 0, .slice none 0 0]
  have HS2 := hid (hs1.below b2)
  have HB2 := hid (HBI.out.below (hb1.trans (b2.mono hb1.size)))
  have HL2 := hid (HL0.out.trans ((hb1.trans (b2.mono hb1.size)).mono HL0.out.size))
  have HT2 : Hid (TmAt (w1.alloc (.cells #[.string ⟨#[88]⟩, .int .i64 0, .slice none 0 0, .string ⟨#[88]⟩, .int .i64 0, .slice none 0 0] 27)) (⟨#[]⟩, 3) (some ⟨w1.heap.size, 0, none⟩) 2 hdT) :=
    hid ⟨⟨by decide, by decide, by decide, by decide⟩, .inr ⟨_, _, rfl, ⟨none, 0, B2.c 0, B2.c 1, B2.c 2, ⟨by decide, by decide, by decide, by decide⟩, .inl rfl⟩, ⟨none, 0, B2.c 3, B2.c 4, B2.c 5, ⟨by decide, by decide, by decide, by decide⟩, .inl rfl⟩, trivial⟩⟩
  clear hs1 hb1 b2 B2 HBI HL0
  go_wp2_with fail
  generalize w1.alloc (.cells #[.string ⟨#[88]⟩, .int .i64 0, .slice none 0 0, .string ⟨#[88]⟩, .int .i64 0, .slice none 0 0] 27) = W2 at HS2 HB2 HL2 HT2 ⊢
  refine (papply_any (some ⟨g1, 0, none⟩) 5 5 someL (some ⟨w.heap.size + 1, 0, none⟩) 1 hdB (⟨#[]⟩, 3) hdT (some ⟨w1.heap.size, 0, none⟩) 2 W2 HS2.out HB2.out (by decide) HT2.out).mono ?_
  rintro e w3 ⟨hb3, ⟨h1, _⟩ | ⟨_, k, rfl, hr, hE⟩⟩
  · exact absurd hd_left (by omega)
  have hk : k.tn = hdY := by rw [hr.2 some_ok hd_right]; exact hd_canon
  obtain ⟨kx, kl, ka, kc⟩ := k
  have e1 : kx = (⟨#[]⟩, 3) := congrArg Prod.fst hk
  have e2 : kl = hdYF := congrArg Prod.snd hk
  subst e1 e2
  dsimp only
  rw [show lenF hdYF = 4 from rfl]
  have hty := (SepTm.tm hE.1).below (alloc_below0 w3 (.cells #[.string ⟨#[]⟩, .int .i64 3, .slice ka 4 kc] 27))
  have BX := Box.new w3 27 #[.string ⟨#[]⟩, .int .i64 3, .slice ka 4 kc]
  have HL3 := hid ((HL2.out.trans (hb3.mono HL2.out.size)).trans ((alloc_below0 w3 (.cells #[.string ⟨#[]⟩, .int .i64 3, .slice ka 4 kc] 27)).mono (Nat.le_trans HL2.out.size hb3.size)))
  obtain ⟨yb, yo, e3, hkk⟩ := hty.args.get (by show 0 < lenF hdYF; decide)
  have e3' : ka = some ⟨yb, yo, none⟩ := e3
  subst e3'
  have hyc : 4 ≤ kc := hty.sizes.len
  have hyc2 : kc ≤ 9223372036854775807 := hty.sizes.cap
  obtain ⟨⟨_, _, k0, _, _, _, _⟩, ⟨_, _, _, _, _, _, _⟩, ⟨_, _, _, _, _, _, _⟩, ⟨_, _, _, k4, _, _, _⟩, _⟩ := hkk
  have y1 := BX.c 1; have y2 := BX.c 2
  have k0' : (w3.alloc (.cells #[.string ⟨#[]⟩, .int .i64 3, .slice (some ⟨yb, yo, none⟩) 4 kc] 27)).cell? ⟨yb, yo, none⟩ = some (.string ⟨#[89]⟩) := k0
  have k4' : (w3.alloc (.cells #[.string ⟨#[]⟩, .int .i64 3, .slice (some ⟨yb, yo, none⟩) 4 kc] 27)).cell? ⟨yb, yo + 3 + 3 + 3 + 1, none⟩ = some (.int .i64 0) := k4
  have k5' : (w3.alloc (.cells #[.string ⟨#[]⟩, .int .i64 3, .slice (some ⟨yb, yo, none⟩) 4 kc] 27)).cell? ⟨yb, yo + 9 + 1, none⟩ = some (.int .i64 0) := k4
  clear k0 k4 hty BX hb3 hr hE hk HS2 HB2 HL2 HT2
  go_wp2_with fail
  go_ret
  exact ⟨rfl, HL3.out⟩
end Go.Proofs.Ytgidgmgpgfonnaa
/- Binds in memory: their cells; a list of binds under way; lent binds. -/
namespace Go.Proofs.Ytgidgmgpgfonnaa
open Go.RowKit Go.Deep

/-- A variable and the term bound to it, with where the term's list lies. -/
abbrev Bk := ByteArray × Kv
def bkCells (x : Bk) : List Value := [.string x.1, .string x.2.x.1, .int .i64 x.2.x.2, .slice x.2.a (lenF x.2.l) x.2.c]
def bkAll (l : List Bk) : List Value := l.flatMap bkCells
def bkBn (x : Bk) : Bn := (x.1, x.2.tn)
theorem bkAll_len : ∀ l : List Bk, (bkAll l).length = l.length * 4
  | [] => rfl
  | x :: r => by
    have := bkAll_len r
    simp only [bkAll, List.flatMap_cons, List.length_append, List.length_cons] at this ⊢
    simp only [bkCells, List.length_cons, List.length_nil]
    omega
theorem bkAll_snoc (l : List Bk) (x : Bk) : bkAll (l ++ [x]) = bkAll l ++ bkCells x := by simp [bkAll]
theorem bk_one (x : Bk) : ∀ u ∈ bkCells x, u.oneCell' = true := by
  intro u hu
  simp [bkCells] at hu
  rcases hu with rfl | rfl | rfl | rfl <;> rfl
theorem bkAll_at : ∀ (l : List Bk) (i : Nat) (h : i < l.length) (k : Nat), k < 4 → (bkAll l)[i * 4 + k]? = (bkCells l[i])[k]?
  | x :: r, 0, _, k, hk => by
    show (bkCells x ++ bkAll r)[0 * 4 + k]? = _
    rw [List.getElem?_append_left (by simp [bkCells]; omega)]
    simp
  | x :: r, i + 1, h, k, hk => by
    show (bkCells x ++ bkAll r)[(i + 1) * 4 + k]? = _
    rw [List.getElem?_append_right (by simp [bkCells]; omega)]
    have := bkAll_at r i (by simpa using h) k hk
    rw [show (i + 1) * 4 + k - (bkCells x).length = i * 4 + k by simp [bkCells]; omega]
    simpa using this
set_option maxRecDepth 100000 in
theorem Try.info50 : (Try.prog.info? 50).map (fun i => (i.zero, i.size, i.bytes)) = some (some (.agg #[.string ⟨#[]⟩, .string ⟨#[]⟩, .int .i64 0, .slice none 0 0]), 4, 64) := by kernel_rfl
set_option maxRecDepth 100000 in
/-- append of one bind. -/
theorem wpList_append_bk {ops : Array Oper} {rest : List Oper} {o : Oper} {a : Act} {Q : Exit → Act → World → Prop} {W : World} (hgd : o.guard = none) (s x : Operand)
    (ho : o.op = .call { callee := .builtin .append, args := #[s, x], argTypes := #[24, 24] }) (base : Nat) (v : Value) (bs : List Bk) (hs : a.eval s = v) (hown : W.ownsRow base 50 4 v bs.length (bkAll bs))
    (nb : Nat) (y : Bk) (hx : a.eval x = .slice (some ⟨nb, 0, none⟩) 1 1) (hm : ∀ j u, (bkCells y)[j]? = some u → W.cell? ((⟨nb, 0, none⟩ : Addr).add j) = some u) (hbig : bs.length ≤ 1048576) (hbase : base ≤ W.heap.size)
    (h : ∀ g' cap' w', w'.ownsRow base 50 4 (.slice (some ⟨g', 0, none⟩) (bs.length + 1) cap') (bs ++ [y]).length (bkAll (bs ++ [y])) → W.grownBy w' v.ownBlock → (some g' = v.ownBlock ∨ g' = W.heap.size) → wpList Try.prog ops Q rest (a.put o.dst (.slice (some ⟨g', 0, none⟩) (bs.length + 1) cap')) w') : wpList Try.prog ops Q (o :: rest) a W := by
  obtain ⟨i0, hi, hz0, hz1, hz2⟩ := info_parts Try.info50
  have hmax : maxLen = 9223372036854775807 := rfl
  refine wpList_append_lies _ hgd s x 24 ho base 50 i0 _ 4 64 Try.underlying24 hi hz0 hz1 hz2 rfl (by decide) v bs.length (bkAll bs) hs hown ⟨nb, 0, none⟩ 1 1 (bkCells y) hx rfl hm (bk_one y) (by decide) (by omega) (by omega) hbase _ rfl ?_
  intro g cap w' h1 h2 h3 _
  refine h g cap w' ?_ h2 ?_
  · rw [bkAll_snoc, List.length_append]
    exact h1
  · rcases h3 with h3 | h3
    · exact .inl h3.symm
    · exact .inr h3

/-- Binds under way: a row of its own, the terms' lists elsewhere. -/
structure LstB (mk : Bool) (B : Nat) (W : World) (v : Value) (ks : List Bk) : Prop where
  row : W.ownsRow B 50 4 v ks.length (bkAll ks)
  own : ∀ k ∈ ks, OwnTm mk (fun q => B ≤ q ∧ some q ≠ v.ownBlock) W k.2.x k.2.a k.2.c k.2.l
set_option maxRecDepth 100000 in
theorem LstB.nil (mk : Bool) (B : Nat) (W : World) : LstB mk B W (.slice none 0 0) [] := ⟨World.ownsRow_nil _ _ _ _, by simp⟩
set_option maxRecDepth 100000 in
theorem LstB.below {mk : Bool} {B : Nat} {W W' : World} {v : Value} {ks : List Bk} (h : LstB mk B W v ks) (hb : Below W.heap.size W W') : LstB mk B W' v ks := ⟨owns_below h.row hb, fun k hk => (h.own k hk).below hb⟩
set_option maxRecDepth 100000 in
theorem LstB.base {mk : Bool} {B B' : Nat} {W : World} {v : Value} {ks : List Bk} (h : LstB mk B W v ks) (hB : B' ≤ B) : LstB mk B' W v ks := ⟨owns_base h.row hB, fun k hk => (h.own k hk).mono (fun q _ hq => ⟨by omega, hq.2⟩)⟩
set_option maxRecDepth 100000 in
theorem LstB.lt {mk : Bool} {B : Nat} {W : World} {v : Value} {ks : List Bk} {g : Nat} (h : LstB mk B W v ks) (hg : v.ownBlock = some g) : g < W.heap.size := by
  obtain ⟨cur, hc⟩ := (owns_cells h.row hg).2
  exact (Array.getElem?_eq_some_iff.1 hc).1
set_option maxRecDepth 100000 in
theorem LstB.grow {mk : Bool} {B : Nat} {W W1 W2 : World} {v v' : Value} {ks ms : List Bk} (h : LstB mk B W v ks) (hW : Below W.heap.size W W1) (hm : ∀ k ∈ ms, OwnTm mk (fun q => W.heap.size ≤ q) W1 k.2.x k.2.a k.2.c k.2.l) (hB : B ≤ W.heap.size)
    (hg : W1.grownBy W2 v.ownBlock) (hat : v'.ownBlock = v.ownBlock ∨ v'.ownBlock = some W1.heap.size) (ho : W2.ownsRow B 50 4 v' (ks ++ ms).length (bkAll (ks ++ ms))) : LstB mk B W2 v' (ks ++ ms) := by
  refine ⟨ho, fun k hk => ?_⟩
  have h2 : OwnTm mk (fun q => (B ≤ q ∧ some q ≠ v'.ownBlock) ∧ some q ≠ v.ownBlock) W1 k.2.x k.2.a k.2.c k.2.l := by
    rcases List.mem_append.1 hk with hk | hk
    · have h0 : OwnTm mk (fun q => (B ≤ q ∧ some q ≠ v'.ownBlock) ∧ some q ≠ v.ownBlock) W k.2.x k.2.a k.2.c k.2.l := (h.own k hk).mono (fun q hq hp => ⟨⟨hp.1, by
        rcases hat with e | e
        · rw [e]; exact hp.2
        · rw [e]; intro e'; cases e'; have := hW.size; omega⟩, hp.2⟩)
      exact h0.below hW
    · refine (hm k hk).mono (fun q hq hp => ?_)
      have hne : some q ≠ v.ownBlock := fun e => by have := h.lt e.symm; omega
      refine ⟨⟨by omega, ?_⟩, hne⟩
      rcases hat with e | e
      · rw [e]; exact hne
      · rw [e]; intro e'; cases e'; omega
  exact (h2.keep (fun q hq hlt => hg.block q hlt hq.2)).mono (fun q _ hq => hq.1)
/-- One bind of a row. -/
theorem row_bd {B : Nat} {W : World} {ks : List Bk} {g n cap : Nat} (h : W.ownsRow B 50 4 (.slice (some ⟨g, 0, none⟩) n cap) n (bkAll ks)) (i : Nat) (hi : i < ks.length) (ht : TmAt W ks[i].2.x ks[i].2.a ks[i].2.c ks[i].2.l) : BdAt W g (0 + i * 4) (bkBn ks[i]) ks[i].2.a ks[i].2.c := by
  have hat := owns_at h
  have each : ∀ k u, k < 4 → (bkCells ks[i])[k]? = some u → W.cell? ⟨g, 0 + (i * 4 + k), none⟩ = some u := fun k u hk hu => hat _ u (by rw [bkAll_at ks i hi k hk]; exact hu)
  refine ⟨?_, ?_, ?_, ?_, ht⟩
  · have := each 0 _ (by decide) rfl
    rw [Nat.add_zero] at this
    exact this
  · have := each 1 _ (by decide) rfl
    rw [← Nat.add_assoc] at this
    exact this
  · have := each 2 _ (by decide) rfl
    rw [← Nat.add_assoc] at this
    exact this
  · have := each 3 _ (by decide) rfl
    rw [← Nat.add_assoc] at this
    exact this

/-- Lent binds: a row with a mark behind it, and lent terms. -/
structure LentB (w : World) (g cap : Nat) (bs : List Bn) : Prop where
  room : bs.length + 1 ≤ cap
  most : cap ≤ maxLen
  mark : w.cell? ⟨g, bs.length * 4, none⟩ = some (.string markB)
  cells : ∀ i (h : i < bs.length), ∃ a c, BdAt w g (0 + i * 4) bs[i] a c ∧ OwnTm true (fun _ => True) w bs[i].2.1 a c bs[i].2.2
  fits : ∀ x ∈ bs, x.1.size ≤ maxLen
theorem LentB.below {w w' : World} {g cap : Nat} {bs : List Bn} (h : LentB w g cap bs) (hb : Below w.heap.size w w') : LentB w' g cap bs :=
  ⟨h.room, h.most, bd_cell hb _ _ h.mark, fun i hi => let ⟨a, c, h1, h2⟩ := h.cells i hi; ⟨a, c, h1.below hb, h2.below hb⟩, h.fits⟩
theorem LentB.binds {w : World} {g cap : Nat} {bs : List Bn} (h : LentB w g cap bs) : BindsAt w (some ⟨g, 0, none⟩) bs.length bs :=
  ⟨rfl, by have := h.room; have := h.most; omega, fun i hi => let ⟨a, c, h1, _⟩ := h.cells i hi; ⟨g, 0, a, c, rfl, h1⟩, h.fits⟩
/-- A list of lent binds with a mark behind it. -/
theorem lent_of {B : Nat} {W : World} {ks : List Bk} {bs : List Bn} {m : Bk} {g cap : Nat} {P : Nat → Prop} (hm : m.1 = markB) (hr : W.ownsRow B 50 4 (.slice (some ⟨g, 0, none⟩) (ks.length + 1) cap) (ks.length + 1) (bkAll (ks ++ [m]))) (ho : ∀ k ∈ ks, OwnTm true P W k.2.x k.2.a k.2.c k.2.l) (hbs : ks.map bkBn = bs) (hf : ∀ x ∈ bs, x.1.size ≤ maxLen) : LentB W g cap bs := by
  have hl : ks.length = bs.length := by rw [← hbs, List.length_map]
  have hc : ks.length + 1 ≤ cap ∧ cap ≤ maxLen := owns_cap hr
  refine ⟨by omega, hc.2, ?_, fun i hi => ?_, hf⟩
  · have hat := owns_at hr (ks.length * 4) (.string m.1) (by rw [show ks.length * 4 = ks.length * 4 + 0 from rfl, bkAll_at (ks ++ [m]) ks.length (by simp) 0 (by decide)]; simp [bkCells])
    rw [← hl, ← hm]
    simpa using hat
  · have hi' : i < ks.length := by omega
    have e : (ks ++ [m])[i]'(by simp; omega) = ks[i] := List.getElem_append_left hi'
    have h2 := ho ks[i] (List.getElem_mem _)
    have h1 := row_bd hr i (by simp; omega) (by rw [e]; exact h2.tm)
    rw [e] at h1
    have e2 : bkBn ks[i] = bs[i] := by simp [← hbs]
    rw [e2] at h1
    refine ⟨_, _, h1, ?_⟩
    rw [← e2]
    exact h2.mono (fun _ _ _ => trivial)
end Go.Proofs.Ytgidgmgpgfonnaa
/- What lent of the statements answers: binds in new memory, with marks. -/
namespace Go.Proofs.Ytgidgmgpgfonnaa
open Go.RowKit Go.Deep

theorem drew_below (w : World) : Below w.heap.size w w.drew := (Below.refl _ w).drew
theorem drew_size (w : World) : w.drew.heap.size = w.heap.size := rfl
set_option maxRecDepth 100000 in
set_option maxHeartbeats 4000000 in
theorem lentb_any (p : Option Addr) (cap : Nat) (bs : List Bn) (w : World) (hB : BindsAt w p bs.length bs) (hn : bs.length ≤ 1048575) :
    Calls Try.prog 7 #[.slice p bs.length cap] w fun e w' => ∃ g cap', e = .returned (.slice (some ⟨g, 0, none⟩) bs.length cap') ∧ LentB w' g cap' bs ∧ w.heap.size ≤ g ∧ Below w.heap.size w w' := by
  obtain ⟨i0, hi, hz0, hz1, hz2⟩ := info_parts Try.info50
  have HB := hid hB
  have hmax : maxLen = 9223372036854775807 := rfl
  clear hB
  go_enter Try.func7, Try.ntmps7
  go_wp2_with fail
  go_loopw [3, 4] (fun ov iv wr => ∃ (j : Nat) (v : Value) (ks : List Bk), j ≤ bs.length ∧ v = ov ∧ iv = .int .i64 j ∧ LstB true w.heap.size wr v ks ∧ ks.map bkBn = bs.take j ∧ Below w.heap.size w wr) (fun _ iv _ => bs.length - (intOf iv).toNat)
  case atStart => exact ⟨0, _, [], Nat.zero_le _, rfl, rfl, LstB.nil _ _ _, by simp, Below.refl _ _⟩
  case round =>
    obtain ⟨j, ov, ks, hj, rfl, rfl, hL, hks, hlow⟩ := hrel
    have HL := hid hL; have HK := hid hks; have HW := hid hlow
    have hkl : ks.length = j := by
      have := congrArg List.length hks
      rw [List.length_map, List.length_take] at this
      omega
    have HKL := hid hkl
    clear hL hks hlow hkl
    by_cases hlt : j < bs.length
    · obtain ⟨b1, o1, a1, c1, rfl, hbd⟩ := (HB.out.below HW.out).cells j hlt
      have htk : bs.take (j + 1) = bs.take j ++ [bs[j]] := List.take_succ_eq_append_getElem hlt
      obtain ⟨⟨vn, ⟨x, l⟩⟩, hy⟩ : ∃ y, bs[j] = y := ⟨_, rfl⟩
      rw [hy] at hbd htk
      have HTK := hid htk
      have HBD := hid hbd
      have p0 := hbd.var; have p1 := hbd.name; have p2 := hbd.sym; have p3 := hbd.list
      dsimp only at p0 p1 p2 p3
      have HC := hid (lent_any x l a1 c1 wr.drew (hbd.tm.below (drew_below wr)))
      have hr0 := (HL.out.row)
      rw [HKL.out] at hr0
      have HR0 := hid hr0
      have hwz := HW.out.size
      clear hbd hy htk hr0
      go_wp2_with fail
      go_region_law
        ((first
          | (refine step_append_lies _ (by rfl) (.tmp 11) (.tmp 24) 24 (by rfl) w.heap.size 50 i0 _ 4 64 Try.underlying24 hi hz0 hz1 hz2 rfl (by decide) ov j (bkAll ks) (by rfl) (owns_below (owns_below HR0.out HW1.out) ((Below.refl _ _).alloc (Nat.le_refl _) _)) ⟨w1.heap.size, 0, none⟩ 1 1 (bkCells (vn, ⟨x, l, a', c'⟩)) (by rfl) rfl (World.news_of_block (heap_alloc_new w1 _)) (bk_one _) (by decide) (by omega) (by omega) (by have := HW1.out.size; simp; omega) _ rfl ?_; intro g3 cap3 w3 hown3 hgrow3 hat3 hlt3; have HO3 := hid hown3; have HG3 := hid hgrow3; have HA3 := hid hat3; clear hown3 hgrow3 hat3)
          | (go_simp; go_wp2_with (go_at_call 8; refine HC.out.mono ?_; rintro e w1 ⟨a', c', rfl, ho1, hb1⟩; have HO1 : Hid (OwnTm true (fun k => wr.heap.size ≤ k) w1 x a' c' l) := ho1; have HW1 : Hid (Below wr.heap.size wr w1) := ((Below.refl _ wr).drew).trans hb1; have q0 := below_cell HW1.out _ _ p0; clear ho1 hb1))
          | fail))
      all_goals
        go_wp2_with fail
        go_roundw
        case rel =>
          have b2 := HW1.out.trans (((Below.refl _ w1).alloc (Nat.le_refl _) (.cells #[.string vn, .string x.1, .int .i64 x.2, .slice a' (lenF l) c'] 50)).mono HW1.out.size)
          refine ⟨j + 1, _, ks ++ [(vn, ⟨x, l, a', c'⟩)], by omega, rfl, by go_num, ?_, by rw [HTK.out, ← HK.out]; simp [bkBn, Kv.tn], ?_⟩
          · refine HL.out.grow b2 (fun k hk => ?_) hwz HG3.out (HA3.out.imp (fun e => e.symm) (fun e => by rw [e]; rfl)) ?_
            · simp only [List.mem_singleton] at hk
              subst hk
              exact HO1.out.below ((Below.refl _ _).alloc (Nat.le_refl _) _)
            · rw [bkAll_snoc, List.length_append, HKL.out]
              exact HO3.out
          · exact HW.out.trans ((b2.mono hwz).grown HG3.out (by have := HW1.out.size; rw [World.size_alloc]; omega) (fun k e => (owns_cells HL.out.row e).1))
        case measure => simp [intOf]; omega
    · have hjl : j = bs.length := by omega
      subst hjl
      have hks' : ks.map bkBn = bs := by have := HK.out; rwa [List.take_of_length_le (Nat.le_refl _)] at this
      have HK2 := hid hks'
      have hwz := HW.out.size
      have bx := (Below.refl _ wr).alloc (Nat.le_refl _) (.cells #[.string ⟨#[77, 97, 114, 107]⟩, .string ⟨#[]⟩, .int .i64 0, .slice none 0 0] 50)
      have BX := hid bx
      clear hks' bx
      go_wp2_with (at_builtin; go_loud (refine wpList_append_bk rfl _ _ rfl w.heap.size ov ks rfl (owns_below HL.out.row BX.out) wr.heap.size (markB, ⟨(⟨#[]⟩, 0), .nil, none, 0⟩) rfl (World.news_of_block (heap_alloc_new wr _)) (by rw [HKL.out]; omega) (by have := BX.out.size; omega) ?_; intro g3 cap3 w3 hown3 hgrow3 hat3; rw [List.length_append, List.length_singleton, HKL.out] at hown3; have hcap3 := owns_cap hown3; rw [HKL.out]; have HO3 := hid hown3; have HG3 := hid hgrow3; have HA3 := hid hat3; have hc3 : bs.length ≤ cap3 := (by omega); have hc4 : cap3 ≤ 9223372036854775807 := (by have := hcap3.2; omega); clear hown3 hgrow3 hat3 hcap3))
      go_ret
      refine ⟨g3, cap3, rfl, lent_of (P := fun q => w.heap.size ≤ q) (m := (markB, ⟨(⟨#[]⟩, 0), .nil, none, 0⟩)) (ks := ks) rfl (by rw [HKL.out]; exact HO3.out) (fun k hk => ?_) HK2.out HB.out.fits, (owns_cells HO3.out rfl).1, ?_⟩
      · have h1 := (HL.out.own k hk).below BX.out
        exact (h1.keep (fun q hq hlt => HG3.out.block q hlt hq.2)).mono (fun q _ hq => hq.1)
      · exact HW.out.trans ((BX.out.mono hwz).grown HG3.out (by rw [World.size_alloc]; omega) (fun k e => (owns_cells HL.out.row e).1))
end Go.Proofs.Ytgidgmgpgfonnaa
/- What kept of the statements answers of lent binds that read as they did. -/
namespace Go.Proofs.Ytgidgmgpgfonnaa
open Go.RowKit Go.Deep

set_option maxRecDepth 100000 in
set_option maxHeartbeats 4000000 in
theorem keptb_any (g cap : Nat) (p : Option Addr) (bcap : Nat) (bs : List Bn) (w : World) (hL : LentB w g cap bs) (hB : BindsAt w p bs.length bs) (hn : bs.length ≤ 1048576) :
    Calls Try.prog 10 #[.slice (some ⟨g, 0, none⟩) bs.length cap, .slice p bs.length bcap] w fun e w' => e = .returned (.bool true) ∧ Below w.heap.size w w' := by
  have HB := hid hB; have HL := hid hL
  have hmax : maxLen = 9223372036854775807 := rfl
  have hc1 : bs.length + 1 ≤ cap := hL.room
  have hc2 : cap ≤ 9223372036854775807 := hL.most
  have hmk := hL.mark
  unfold markB at hmk
  clear hB hL
  go_enter Try.func10, Try.ntmps10
  go_wp2_with fail
  go_loopw [5, 6] (fun iv _ wr => ∃ (j : Nat), j ≤ bs.length ∧ iv = .int .i64 j ∧ Below w.heap.size w wr) (fun iv _ _ => bs.length - (intOf iv).toNat)
  case atStart => exact ⟨0, Nat.zero_le _, rfl, Below.refl _ _⟩
  case round =>
    obtain ⟨j, hj, rfl, hlow⟩ := hrel
    have HW := hid hlow
    clear hlow
    by_cases hlt : j < bs.length
    · obtain ⟨b1, o1, a1, c1, rfl, hbd⟩ := (HB.out.below HW.out).cells j hlt
      obtain ⟨a2, c2, hbd2, ho2⟩ := (HL.out.below HW.out).cells j hlt
      obtain ⟨⟨vn, ⟨x, l⟩⟩, hy⟩ : ∃ y, bs[j] = y := ⟨_, rfl⟩
      rw [hy] at hbd hbd2 ho2
      have HBD := hid hbd; have HBD2 := hid hbd2; have HO2 := hid ho2
      simp only [Nat.zero_add] at hbd2
      have hC : Hid (∀ w', Below wr.heap.size wr w' → Calls Try.prog 11 #[.agg #[.string x.1, .int .i64 x.2, .slice a2 (lenF l) c2], .agg #[.string x.1, .int .i64 x.2, .slice a1 (lenF l) c1]] w' fun e w'' => e = .returned (.bool true) ∧ Below w'.heap.size w' w'') := hid fun w' hb => kept_any _ x l a2 a1 c2 c1 w' (HO2.out.below hb) (HBD.out.tm.below hb)
      have hne := later_some wr
      have p1 := later_cell hbd.name; have p2 := later_cell hbd.sym; have p3 := later_cell hbd.list
      have q1 := later_cell hbd2.name; have q2 := later_cell hbd2.sym; have q3 := later_cell hbd2.list
      dsimp only at p1 p2 p3 q1 q2 q3
      have hk0 : (0 : Int) ≤ (j : Int) := by omega
      have hkn : (j : Int) < (bs.length : Int) := by omega
      clear hbd hbd2 ho2 hy
      go_wp2_with fail
      refine wp_region_later (by kernel_rfl) (by kernel_rfl) ?_
      repeat (go_big_quiet_step ((refine calls_later (hC.out _ ?_); exact Later.below _)))
      refine wpQuiet_nil ?_
      intro _ hw'
      obtain ⟨b2, hw''⟩ := hw'
      subst hw''
      have HW2 : Hid (Below w.heap.size w b2.now) := hid (HW.out.trans (b2.below.mono HW.out.size))
      have r0 := later_cell (HBD.out.below b2.below).var
      have s0 := later_cell (HBD2.out.below b2.below).var
      simp only [Nat.zero_add] at s0
      dsimp only at r0 s0
      have hne2 := later_some b2.now
      clear p1 p2 p3 q1 q2 q3 hC
      go_wp2_with fail
      refine wp_region_later (by kernel_rfl) (by kernel_rfl) ?_
      repeat (go_big_quiet_step (fail))
      refine wpQuiet_nil ?_
      intro _ hw'
      obtain ⟨b3, hw''⟩ := hw'
      subst hw''
      have HW3 : Hid (Below w.heap.size w b3.now) := hid (HW2.out.trans (b3.below.mono HW2.out.size))
      clear r0 s0
      go_wp2
      go_roundw
      case rel => exact ⟨j + 1, by omega, by go_num, HW3.out⟩
      case measure => simp [intOf]; omega
    · go_wp2
      go_ret
      exact ⟨rfl, HW.out⟩
end Go.Proofs.Ytgidgmgpgfonnaa
/- What the document's Is answers of binds. -/
namespace Go.Proofs.Ytgidgmgpgfonnaa
open Go.RowKit Go.Deep

set_option maxRecDepth 100000 in
set_option maxHeartbeats 2000000 in
theorem ris_any (S : Option Addr) (n cap : Nat) (sg : List Sym) (p : Option Addr) (bcap : Nat) (bs : List Bn) (w : World) (hS : SigAt w S n sg) (hB : BindsAt w p bs.length bs) (hn : bs.length ≤ 1048576) (hnd : ∀ b ∈ bs, nodesF b.2.2 ≤ 1048576) :
    Calls Try.prog 13 #[.slice S n cap, .slice p bs.length bcap] w fun e w' => e = .returned (.bool (decide ((chkB sg bs none 0).1 = 0))) ∧ Below w.heap.size w w' := by
  have HC := hid (rchk_any S n cap sg p bcap bs w hS hB hn hnd)
  obtain ⟨⟨ev, iv⟩, hev⟩ : ∃ R, chkB sg bs none 0 = R := ⟨_, rfl⟩
  rw [hev] at HC ⊢
  clear hev hS hB
  go_enter Try.func13, Try.ntmps13
  go_wp2_with fail
  refine HC.out.mono ?_
  rintro e w1 ⟨rfl, hb1⟩
  have HL := hid hb1
  clear hb1 HC
  go_wp2_with fail
  go_ret
  exact ⟨rfl, HL.out⟩
end Go.Proofs.Ytgidgmgpgfonnaa
/- What the statements of layer 7 rest on. -/
