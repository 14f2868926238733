/- The walk of SigNewest. -/
import Derived.Test.YtpngaeabkmbefaaHead
import Derived.Test.YtpngaeabkmbefaaNewPlain
import Derived.Test.YtpngaeabkmbefaaRPlain
import Derived.Deep.DeepCutAuto
import Derived.Deep.RegionHeld3
namespace Go.Proofs.Ytpngaeabkmbefaa
open Go.RowKit

theorem own_at {w : World} {H base : Nat} (hb : base ≤ H) (hh : w.heap[H]? = some (.cells #[] 42)) : w.ownsRow base 42 4 (.slice (some ⟨H, 0, none⟩) 0 0) 0 [] :=
  ⟨rfl, Or.inr ⟨H, 0, #[], rfl, hb, hh, Nat.le_refl _, by simp, rfl, rfl⟩⟩

theorem drew_heap (w : World) : w.drew.heap = w.heap := rfl
theorem heap_new' {w : World} {o : Obj} {H : Nat} (hH : w.heap.size = H) : (w.alloc o).heap[H]? = some o := by subst hH; exact heap_alloc_new w o
theorem heap_old' {w : World} {o p : Obj} {H : Nat} (hH : H < w.heap.size) (h : w.heap[H]? = some p) : (w.alloc o).heap[H]? = some p := by rw [Below.heap_alloc w o H hH]; exact h

theorem news_at {w W : World} {b off : Nat} {l : List Sym} (h : ∀ i (h : i < l.length), SymAt w b (off + i * 4) l[i]) (hb : Below w.heap.size w W) : ∀ j u, (symCells l)[j]? = some u → W.cell? ((⟨b, off, none⟩ : Addr).add j) = some u := by
  intro j u hu
  have e : (⟨b, off, none⟩ : Addr).add j = ⟨b, off + j, none⟩ := by unfold Addr.add; split <;> simp_all
  rw [e]
  exact news_of_syms l off (fun i hi => (h i hi).below hb) j u hu
theorem x_news {W : World} {B : Nat} {x : Sym} (h : W.heap[B]? = some (.cells #[.string x.name, .int .i64 x.kind, .int .i64 x.arity, .string x.unit] 42)) : ∀ j u, (symCells [x])[j]? = some u → W.cell? ((⟨B, 0, none⟩ : Addr).add j) = some u :=
  World.news_of_block (cs := #[.string x.name, .int .i64 x.kind, .int .i64 x.arity, .string x.unit]) (t := 42) (fr := (0, 0)) h

set_option maxRecDepth 100000 in
set_option maxRecDepth 100000 in
set_option maxRecDepth 100000 in
set_option maxHeartbeats 1000000 in
theorem sigNewest_walk (a : Option Addr) (n cap : Nat) (hcap : n ≤ cap) (l : List Sym) (x : Sym) (hxf : x.Fits) (w : World) (h : SigAt w a n l) (hr : n * 48 ≤ 140737488351232) :
    Calls Try.prog 8 #[.slice a n cap, x.val] w fun e w' => e = .returned (.bool true) ∧ Below w.heap.size w w' := by
  obtain ⟨i0, hi, hz0, hz1, hz2⟩ := info_parts Try.info42
  have HS : Hid (SigAt w a n l) := h
  have hlen : Hid (n = l.length) := h.len
  clear h
  show Calls Try.prog 8 #[.slice a n cap, .agg #[.string x.name, .int .i64 x.kind, .int .i64 x.arity, .string x.unit]] w _
  go_enter Try.func8, Try.ntmps8
  go_wp2_with fail
  refine (head_any _).mono ?_
  rintro e w1 ⟨rfl, hb⟩
  have HB1 : Hid (Below (w.heap.size + 1) (w.alloc (.cells #[.string x.name, .int .i64 x.kind, .int .i64 x.arity, .string x.unit] 42)) w1) := hb.mono (by simp)
  have HW1 : Hid (Below w.heap.size w w1) := (box_facts HB1.out).2.2.2.2.2
  clear hb
  go_wp2_with fail
  refine (scheck_any a n cap hcap l _ (HS.out.below HW1.out)).mono ?_
  rintro e w2 ⟨he, hb⟩
  unfold CheckRet at he
  subst he
  have hb2 : Below (w.heap.size + 1) (w.alloc (.cells #[.string x.name, .int .i64 x.kind, .int .i64 x.arity, .string x.unit] 42)) w2 := HB1.out.trans (hb.mono (by have := (box_facts HB1.out).2.2.2.2.1; omega))
  obtain ⟨c0, c1, c2, c3, hz, hbw⟩ := box_facts hb2
  have HW2 : Hid (Below w.heap.size w w2) := hbw
  clear hb hb2 hbw
  go_upto_region 3 with fail
  go_outline
  go_cut [8] (fun v wc => ∃ g cap', v = .slice (some ⟨g, 0, none⟩) (n + 1) cap' ∧ n + 1 ≤ cap' ∧ SigAt wc (some ⟨g, 0, none⟩) (n + 1) (l ++ [x]) ∧ Below w.heap.size w wc)
  case first =>
    by_cases hn : n = 0
    · subst hn
      have hl0 : l = [] := List.length_eq_zero_iff.1 hlen.out.symm
      subst hl0
      cases a with
      | none =>
        go_region_held3 (fun w' => w'.cell? ⟨w.heap.size, 0, none⟩ = some (.string x.name) ∧ w'.cell? ⟨w.heap.size, 1, none⟩ = some (.int .i64 x.kind) ∧ w'.cell? ⟨w.heap.size, 2, none⟩ = some (.int .i64 x.arity) ∧ w'.cell? ⟨w.heap.size, 3, none⟩ = some (.string x.unit)) ((first | (go_split_ands; refine ⟨?_, ?_, ?_, ?_⟩ <;> (rw [hbe2.out.cell (by show w.heap.size < w2.heap.size; omega)]; assumption)) | (go_split_ands; refine ⟨?_, ?_, ?_, ?_⟩ <;> (rw [hbe1.out.cell (by show w.heap.size < w2.heap.size; omega)]; assumption)) | go_keep | fail)) ((first | (refine step_append_lies _ (by rfl) (.tmp 26) (.tmp 28) 27 (by rfl) w2.heap.size 42 i0 _ 4 48 Try.underlying27 hi hz0 hz1 hz2 rfl (by decide) (.slice (some ⟨w2.heap.size, 0, none⟩) 0 0) 0 [] (by rfl) (own_at (by omega) (by rw [drew_heap]; first | exact heap_new' (by simp) | exact heap_old' (by simp <;> omega) (heap_new' (by simp)))) ⟨w2.heap.size + 1, 0, none⟩ 1 1 (symCells [x]) (by rfl) rfl (x_news (by rw [drew_heap]; first | exact heap_new' (by simp) | exact heap_old' (by simp <;> omega) (heap_new' (by simp)))) (symCells_oneCell _) (by decide) (by unfold maxLen; omega) (by omega) (by simp <;> omega) _ rfl ?_; intro g2 cap2 w5 hown2 hgrow2 hat2 hlt2; simp only [Nat.zero_add, List.nil_append] at hown2 ⊢; have hbe2 : Hid (Below w2.heap.size w2 w5) := Below.grown (by first | exact ((Below.refl _ _).alloc (Nat.le_refl _) _).drew | exact (((Below.refl _ _).alloc (Nat.le_refl _) _).alloc (by simp) _).drew) hgrow2 (by simp <;> omega) (fun k hk => by cases hk; first | exact Nat.le_refl _ | exact Nat.le_succ _)) | (refine step_append_lies _ (by rfl) (.tmp 26) (.tmp 28) 27 (by rfl) w2.heap.size 42 i0 _ 4 48 Try.underlying27 hi hz0 hz1 hz2 rfl (by decide) (.slice (some ⟨w2.heap.size + 1, 0, none⟩) 0 0) 0 [] (by rfl) (own_at (by omega) (by rw [drew_heap]; first | exact heap_new' (by simp) | exact heap_old' (by simp <;> omega) (heap_new' (by simp)))) ⟨w2.heap.size, 0, none⟩ 1 1 (symCells [x]) (by rfl) rfl (x_news (by rw [drew_heap]; first | exact heap_new' (by simp) | exact heap_old' (by simp <;> omega) (heap_new' (by simp)))) (symCells_oneCell _) (by decide) (by unfold maxLen; omega) (by omega) (by simp <;> omega) _ rfl ?_; intro g2 cap2 w5 hown2 hgrow2 hat2 hlt2; simp only [Nat.zero_add, List.nil_append] at hown2 ⊢; have hbe2 : Hid (Below w2.heap.size w2 w5) := Below.grown (by first | exact ((Below.refl _ _).alloc (Nat.le_refl _) _).drew | exact (((Below.refl _ _).alloc (Nat.le_refl _) _).alloc (by simp) _).drew) hgrow2 (by simp <;> omega) (fun k hk => by cases hk; first | exact Nat.le_refl _ | exact Nat.le_succ _)) | fail))
        all_goals (go_wp2_with fail; go_meet)
        all_goals (exact ⟨g2, cap2, rfl, (own_cap hown2).2.1, sigAt_of_owns (l := [] ++ [x]) (by simpa [symCells_append] using hown2) (by unfold maxLen; omega) (fun y hy => by
          rcases List.mem_append.1 hy with hy | hy
          · exact HS.out.fits y hy
          · simp at hy; subst hy; exact hxf), HW2.out.trans (hbe2.out.mono (by omega))⟩)
      | some ad =>
        go_region_held3 (fun w' => w'.cell? ⟨w.heap.size, 0, none⟩ = some (.string x.name) ∧ w'.cell? ⟨w.heap.size, 1, none⟩ = some (.int .i64 x.kind) ∧ w'.cell? ⟨w.heap.size, 2, none⟩ = some (.int .i64 x.arity) ∧ w'.cell? ⟨w.heap.size, 3, none⟩ = some (.string x.unit)) ((first | (go_split_ands; refine ⟨?_, ?_, ?_, ?_⟩ <;> (rw [hbe2.out.cell (by show w.heap.size < w2.heap.size; omega)]; assumption)) | (go_split_ands; refine ⟨?_, ?_, ?_, ?_⟩ <;> (rw [hbe1.out.cell (by show w.heap.size < w2.heap.size; omega)]; assumption)) | go_keep | fail)) ((first | (refine step_append_lies _ (by rfl) (.tmp 26) (.tmp 28) 27 (by rfl) w2.heap.size 42 i0 _ 4 48 Try.underlying27 hi hz0 hz1 hz2 rfl (by decide) (.slice (some ⟨w2.heap.size, 0, none⟩) 0 0) 0 [] (by rfl) (own_at (by omega) (by rw [drew_heap]; first | exact heap_new' (by simp) | exact heap_old' (by simp <;> omega) (heap_new' (by simp)))) ⟨w2.heap.size + 1, 0, none⟩ 1 1 (symCells [x]) (by rfl) rfl (x_news (by rw [drew_heap]; first | exact heap_new' (by simp) | exact heap_old' (by simp <;> omega) (heap_new' (by simp)))) (symCells_oneCell _) (by decide) (by unfold maxLen; omega) (by omega) (by simp <;> omega) _ rfl ?_; intro g2 cap2 w5 hown2 hgrow2 hat2 hlt2; simp only [Nat.zero_add, List.nil_append] at hown2 ⊢; have hbe2 : Hid (Below w2.heap.size w2 w5) := Below.grown (by first | exact ((Below.refl _ _).alloc (Nat.le_refl _) _).drew | exact (((Below.refl _ _).alloc (Nat.le_refl _) _).alloc (by simp) _).drew) hgrow2 (by simp <;> omega) (fun k hk => by cases hk; first | exact Nat.le_refl _ | exact Nat.le_succ _)) | (refine step_append_lies _ (by rfl) (.tmp 26) (.tmp 28) 27 (by rfl) w2.heap.size 42 i0 _ 4 48 Try.underlying27 hi hz0 hz1 hz2 rfl (by decide) (.slice (some ⟨w2.heap.size + 1, 0, none⟩) 0 0) 0 [] (by rfl) (own_at (by omega) (by rw [drew_heap]; first | exact heap_new' (by simp) | exact heap_old' (by simp <;> omega) (heap_new' (by simp)))) ⟨w2.heap.size, 0, none⟩ 1 1 (symCells [x]) (by rfl) rfl (x_news (by rw [drew_heap]; first | exact heap_new' (by simp) | exact heap_old' (by simp <;> omega) (heap_new' (by simp)))) (symCells_oneCell _) (by decide) (by unfold maxLen; omega) (by omega) (by simp <;> omega) _ rfl ?_; intro g2 cap2 w5 hown2 hgrow2 hat2 hlt2; simp only [Nat.zero_add, List.nil_append] at hown2 ⊢; have hbe2 : Hid (Below w2.heap.size w2 w5) := Below.grown (by first | exact ((Below.refl _ _).alloc (Nat.le_refl _) _).drew | exact (((Below.refl _ _).alloc (Nat.le_refl _) _).alloc (by simp) _).drew) hgrow2 (by simp <;> omega) (fun k hk => by cases hk; first | exact Nat.le_refl _ | exact Nat.le_succ _)) | fail))
        all_goals (go_wp2_with fail; go_meet)
        all_goals (exact ⟨g2, cap2, rfl, (own_cap hown2).2.1, sigAt_of_owns (l := [] ++ [x]) (by simpa [symCells_append] using hown2) (by unfold maxLen; omega) (fun y hy => by
          rcases List.mem_append.1 hy with hy | hy
          · exact HS.out.fits y hy
          · simp at hy; subst hy; exact hxf), HW2.out.trans (hbe2.out.mono (by omega))⟩)
    · obtain ⟨b, off, rfl, _⟩ := HS.out.cells 0 (by have := hlen.out; omega)
      have hsy : Hid (∀ i (h : i < l.length), SymAt w2 b (off + i * 4) l[i]) := by
        intro i hi
        obtain ⟨b', off', hbo, hs⟩ := (HS.out.below HW2.out).cells i hi
        simp only [Option.some.injEq, Addr.mk.injEq, and_true] at hbo
        obtain ⟨rfl, rfl⟩ := hbo
        exact hs
      go_region_held3 (fun w' => w'.cell? ⟨w.heap.size, 0, none⟩ = some (.string x.name) ∧ w'.cell? ⟨w.heap.size, 1, none⟩ = some (.int .i64 x.kind) ∧ w'.cell? ⟨w.heap.size, 2, none⟩ = some (.int .i64 x.arity) ∧ w'.cell? ⟨w.heap.size, 3, none⟩ = some (.string x.unit)) ((first | (go_split_ands; refine ⟨?_, ?_, ?_, ?_⟩ <;> (rw [hbe2.out.cell (by show w.heap.size < w2.heap.size; omega)]; assumption)) | (go_split_ands; refine ⟨?_, ?_, ?_, ?_⟩ <;> (rw [hbe1.out.cell (by show w.heap.size < w2.heap.size; omega)]; assumption)) | go_keep | fail)) ((first | (refine step_append_lies _ (by rfl) (.tmp 24) (.tmp 25) 27 (by rfl) w2.heap.size 42 i0 _ 4 48 Try.underlying27 hi hz0 hz1 hz2 rfl (by decide) (.slice (some ⟨w2.heap.size, 0, none⟩) 0 0) 0 [] (by rfl) (own_at (by omega) (by rw [drew_heap]; first | exact heap_new' (by simp) | exact heap_old' (by simp <;> omega) (heap_new' (by simp)))) ⟨b, off, none⟩ n cap (symCells l) (by rfl) (by rw [symCells_length]; have := hlen.out; omega) (news_at hsy.out (by first | exact ((Below.refl _ _).alloc (Nat.le_refl _) _).drew | exact (((Below.refl _ _).alloc (Nat.le_refl _) _).alloc (by simp) _).drew)) (symCells_oneCell _) (by omega) (by unfold maxLen; omega) (by omega) (by simp <;> omega) _ rfl ?_; intro g1 cap1 w4 hown1 hgrow1 hat1 hlt1; simp only [Nat.zero_add, List.nil_append] at hown1 ⊢; have hbe1 : Hid (Below w2.heap.size w2 w4) := Below.grown (by first | exact ((Below.refl _ _).alloc (Nat.le_refl _) _).drew | exact (((Below.refl _ _).alloc (Nat.le_refl _) _).alloc (by simp) _).drew) hgrow1 (by simp <;> omega) (fun k hk => by cases hk; first | exact Nat.le_refl _ | exact Nat.le_succ _)) | (refine step_append_lies _ (by rfl) (.tmp 24) (.tmp 25) 27 (by rfl) w2.heap.size 42 i0 _ 4 48 Try.underlying27 hi hz0 hz1 hz2 rfl (by decide) (.slice (some ⟨w2.heap.size + 1, 0, none⟩) 0 0) 0 [] (by rfl) (own_at (by omega) (by rw [drew_heap]; first | exact heap_new' (by simp) | exact heap_old' (by simp <;> omega) (heap_new' (by simp)))) ⟨b, off, none⟩ n cap (symCells l) (by rfl) (by rw [symCells_length]; have := hlen.out; omega) (news_at hsy.out (by first | exact ((Below.refl _ _).alloc (Nat.le_refl _) _).drew | exact (((Below.refl _ _).alloc (Nat.le_refl _) _).alloc (by simp) _).drew)) (symCells_oneCell _) (by omega) (by unfold maxLen; omega) (by omega) (by simp <;> omega) _ rfl ?_; intro g1 cap1 w4 hown1 hgrow1 hat1 hlt1; simp only [Nat.zero_add, List.nil_append] at hown1 ⊢; have hbe1 : Hid (Below w2.heap.size w2 w4) := Below.grown (by first | exact ((Below.refl _ _).alloc (Nat.le_refl _) _).drew | exact (((Below.refl _ _).alloc (Nat.le_refl _) _).alloc (by simp) _).drew) hgrow1 (by simp <;> omega) (fun k hk => by cases hk; first | exact Nat.le_refl _ | exact Nat.le_succ _)) | (refine step_append_lies _ (by rfl) (.tmp 26) (.tmp 28) 27 (by rfl) w2.heap.size 42 i0 _ 4 48 Try.underlying27 hi hz0 hz1 hz2 rfl (by decide) (.slice (some ⟨g1, 0, none⟩) n cap1) n (symCells l) (by rfl) (by first | exact hown1 | exact hown1.alloc _) ⟨w4.heap.size, 0, none⟩ 1 1 (symCells [x]) (by rfl) rfl (sym_news w4 _ rfl x) (symCells_oneCell _) (by decide) (by unfold maxLen; omega) (by omega) (by have := hbe1.out.size; simp <;> omega) _ rfl ?_; intro g2 cap2 w5 hown2 hgrow2 hat2 hlt2; have hbe2 : Hid (Below w2.heap.size w2 w5) := (by first | exact hbe1.out.grown hgrow2 hbe1.out.size (own_base hown1) | exact (hbe1.out.alloc hbe1.out.size _).grown hgrow2 (by have := hbe1.out.size; simp <;> omega) (own_base hown1))) | (refine step_append_lies _ (by rfl) (.tmp 26) (.tmp 28) 27 (by rfl) w2.heap.size 42 i0 _ 4 48 Try.underlying27 hi hz0 hz1 hz2 rfl (by decide) (.slice (some ⟨g1, 0, none⟩) n cap1) n (symCells l) (by rfl) (by first | exact hown1 | exact hown1.alloc _) ⟨w2.heap.size, 0, none⟩ 1 1 (symCells [x]) (by rfl) rfl (x_news (by rw [hgrow1.block (w2.heap.size) (by simp <;> omega) (by simp [Value.ownBlock])]; rw [drew_heap]; first | exact heap_new' (by simp) | exact heap_old' (by simp <;> omega) (heap_new' (by simp)))) (symCells_oneCell _) (by decide) (by unfold maxLen; omega) (by omega) (by have := hbe1.out.size; simp <;> omega) _ rfl ?_; intro g2 cap2 w5 hown2 hgrow2 hat2 hlt2; have hbe2 : Hid (Below w2.heap.size w2 w5) := (by first | exact hbe1.out.grown hgrow2 hbe1.out.size (own_base hown1) | exact (hbe1.out.alloc hbe1.out.size _).grown hgrow2 (by have := hbe1.out.size; simp <;> omega) (own_base hown1))) | (refine step_append_lies _ (by rfl) (.tmp 26) (.tmp 28) 27 (by rfl) w2.heap.size 42 i0 _ 4 48 Try.underlying27 hi hz0 hz1 hz2 rfl (by decide) (.slice (some ⟨g1, 0, none⟩) n cap1) n (symCells l) (by rfl) (by first | exact hown1 | exact hown1.alloc _) ⟨w2.heap.size + 1, 0, none⟩ 1 1 (symCells [x]) (by rfl) rfl (x_news (by rw [hgrow1.block (w2.heap.size + 1) (by simp <;> omega) (by simp [Value.ownBlock])]; rw [drew_heap]; first | exact heap_new' (by simp) | exact heap_old' (by simp <;> omega) (heap_new' (by simp)))) (symCells_oneCell _) (by decide) (by unfold maxLen; omega) (by omega) (by have := hbe1.out.size; simp <;> omega) _ rfl ?_; intro g2 cap2 w5 hown2 hgrow2 hat2 hlt2; have hbe2 : Hid (Below w2.heap.size w2 w5) := (by first | exact hbe1.out.grown hgrow2 hbe1.out.size (own_base hown1) | exact (hbe1.out.alloc hbe1.out.size _).grown hgrow2 (by have := hbe1.out.size; simp <;> omega) (own_base hown1))) | fail))
      all_goals (go_wp2_with fail; go_meet)
      all_goals (exact ⟨g2, cap2, rfl, (own_cap hown2).2.1, sigAt_of_owns (l := l ++ [x]) (by simpa [symCells_append] using hown2) (by unfold maxLen; omega) (fun y hy => by
        rcases List.mem_append.1 hy with hy | hy
        · exact HS.out.fits y hy
        · simp at hy; subst hy; exact hxf), HW2.out.trans (hbe2.out.mono (by omega))⟩)
  case rest =>
    obtain ⟨g, cap', hv, hc2, hs2, hb2⟩ := hcut
    subst hv
    have HM : Hid (SigAt wc (some ⟨g, 0, none⟩) (n + 1) (l ++ [x])) := hs2
    have HWC : Hid (Below w.heap.size w wc) := hb2
    clear hs2 hb2 c0 c1 c2 c3 hz
    go_wp2_with fail
    refine (scheck_any _ _ _ hc2 (l ++ [x]) _ HM.out).mono ?_
    rintro e w6 ⟨he, hb6⟩
    unfold CheckRet at he
    subst he
    have HM6 : Hid (SigAt w6 (some ⟨g, 0, none⟩) (n + 1) (l ++ [x])) := HM.out.below hb6
    have HW6 : Hid (Below w.heap.size w w6) := HWC.out.trans (hb6.mono HWC.out.size)
    clear hb6
    cases h1 : (checkE l != 0)
    · have h1' : Hid (checkE l = 0) := by show _ = _; simpa using h1
      cases h2 : (checkE (l ++ [x]) != 0)
      · have h2' : Hid (checkE (l ++ [x]) = 0) := by show _ = _; simpa using h2
        go_wp2
        go_loopw [11, 12, 13, 14, 15, 16, 17] (fun i _ _ _ _ _ _ w' => ∃ k : Nat, k ≤ n ∧ i = .int .i64 k ∧ Below w6.heap.size w6 w') (fun i _ _ _ _ _ _ _ => n - (intOf i).toNat)
        case atStart => exact ⟨0, Nat.zero_le _, rfl, Below.refl _ _⟩
        case round =>
          obtain ⟨k, hk, rfl, hb⟩ := hrel
          have HB : Hid (Below w6.heap.size w6 wr) := hb
          have HW : Hid (Below w.heap.size w wr) := HW6.out.trans (hb.mono HW6.out.size)
          clear hb
          by_cases hlt : k < n
          · have hlk : k < l.length := by have := hlen.out; omega
            obtain ⟨b, off, rfl, hsym⟩ := HS.out.cells k hlk
            have s0 := (hsym.below HW.out).name
            clear hsym
            have hfo : Hid (findL (l ++ [x]) l[k].name = some k) := find_own hlk ((check_ok h1'.out).2 k hlk)
            have huo : Hid (unitAt (l ++ [x]) k = unitAt l k) := unit_same hlk ((check_ok h1'.out).2 k hlk)
            go_wp2_with fail
            refine (sfind_any _ _ _ (l ++ [x]) _ _ (HM6.out.below HB.out)).mono ?_
            rintro e w7 ⟨he, hb7⟩
            unfold FindRet at he
            rw [findI_some hfo.out, findB_some hfo.out] at he
            subst he
            have HB7 : Hid (Below w6.heap.size w6 w7) := HB.out.trans (hb7.mono HB.out.size)
            have HW7 : Hid (Below w.heap.size w w7) := HW.out.trans (hb7.mono HW.out.size)
            clear hb7 s0
            go_wp2_with fail
            refine (sunit_any _ _ _ l _ _ (HS.out.below HW7.out)).mono ?_
            rintro e w8 ⟨he, hb8⟩
            unfold UnitRet at he
            subst he
            have HB8 : Hid (Below w6.heap.size w6 w8) := HB7.out.trans (hb8.mono HB7.out.size)
            clear hb8
            go_wp2_with fail
            refine (sunit_any _ _ _ (l ++ [x]) _ _ (HM6.out.below HB8.out)).mono ?_
            rintro e w9 ⟨he, hb9⟩
            unfold UnitRet at he
            rw [show unitI (l ++ [x]) k = unitI l k by unfold unitI; rw [huo.out], show unitOk (l ++ [x]) k = unitOk l k by unfold unitOk; rw [huo.out]] at he
            subst he
            have HB9 : Hid (Below w6.heap.size w6 w9) := HB8.out.trans (hb9.mono HB8.out.size)
            clear hb9
            go_wp2
            go_roundw
            case rel => exact ⟨k + 1, by omega, by go_num, HB9.out⟩
            case measure => simp [intOf]; omega
          · go_wp2
            go_ret
            exact ⟨rfl, HW.out⟩
      · have h2' : Hid (checkE (l ++ [x]) ≠ 0) := by show _ ≠ _; simpa using h2
        have hpl : Hid (checkP (l ++ [x]) = l.length ∨ (checkE (l ++ [x]) = 15 ∧ checkP (l ++ [x]) = 0)) := new_place h1'.out h2'.out
        cases h3 : (checkP (l ++ [x]) == (n : Int))
        · have h4 : (checkE (l ++ [x]) == 15) = true ∧ (checkP (l ++ [x]) == 0) = true := by
            rcases hpl.out with hp | ⟨hp1, hp2⟩
            · have := hlen.out; simp at h3; omega
            · simp [hp1, hp2]
          obtain ⟨h5, h6⟩ := h4
          go_wp2
          go_ret
          exact ⟨rfl, HW6.out⟩
        · go_wp2
          go_ret
          exact ⟨rfl, HW6.out⟩
    · have h2 : (checkE (l ++ [x]) != 0) = true := by
        have h1' : checkE l ≠ 0 := by simpa using h1
        have : checkE (l ++ [x]) ≠ 0 := by
          by_cases h16 : 16 < l.length + 1
          · simp [checkE]; omega
          · exact new_bad h1' h16
        simpa using this
      go_wp2
      go_ret
      exact ⟨rfl, HW6.out⟩
end Go.Proofs.Ytpngaeabkmbefaa
