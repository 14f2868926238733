/- What lent makes: the signature in new memory, with a mark behind. -/
import Derived.Test.YtpngaeabkmbefaaRow
namespace Go.Proofs.Ytpngaeabkmbefaa
open Go.RowKit

def markS : Sym := ⟨⟨#[109, 97, 114, 107]⟩, 0, 0, ⟨#[]⟩⟩

/-- A slice of n symbols, with room for one more, behind which the mark lies; all of it from block 'base' on. -/
structure Lent (w : World) (base : Nat) (v : Value) (n : Nat) (l : List Sym) : Prop where
  is : ∃ g cap, v = .slice (some ⟨g, 0, none⟩) n cap ∧ base ≤ g ∧ n + 1 ≤ cap ∧ SigAt w (some ⟨g, 0, none⟩) (n + 1) (l ++ [markS])

theorem own_empty (w : World) : (w.alloc (.cells #[] 42)).ownsRow w.heap.size 42 4 (.slice (some ⟨w.heap.size, 0, none⟩) 0 0) 0 [] :=
  ⟨rfl, Or.inr ⟨w.heap.size, 0, #[], rfl, Nat.le_refl _, heap_alloc_new w _, Nat.le_refl _, by simp, rfl, rfl⟩⟩
theorem own_cap {w : World} {base g n cap : Nat} {xs : List Value} (h : w.ownsRow base 42 4 (.slice (some ⟨g, 0, none⟩) n cap) n xs) : base ≤ g ∧ n ≤ cap ∧ cap ≤ maxLen := by
  rcases h.2 with ⟨hv, _⟩ | ⟨g', cap', cur, hv, hb, _, hnc, hm, _⟩
  · cases hv
  · simp only [Value.slice.injEq, Option.some.injEq, Addr.mk.injEq, and_true, true_and] at hv
    obtain ⟨rfl, rfl⟩ := hv
    exact ⟨hb, hnc, hm⟩
theorem mark_fits : markS.Fits := ⟨by decide, by decide⟩
theorem mark_news (w : World) (H : Nat) (hH : w.heap.size = H) : ∀ j u, (symCells [markS])[j]? = some u → (w.alloc (.cells #[.string ⟨#[109, 97, 114, 107]⟩, .int .i64 0, .int .i64 0, .string ⟨#[]⟩] 42)).cell? ((⟨H, 0, none⟩ : Addr).add j) = some u := by
  subst hH
  exact World.news_of_block (cs := #[.string ⟨#[109, 97, 114, 107]⟩, .int .i64 0, .int .i64 0, .string ⟨#[]⟩]) (t := 42) (fr := (0, 0)) (heap_alloc_new w _)

set_option maxHeartbeats 400000 in
theorem lent_any (a : Option Addr) (n cap : Nat) (l : List Sym) (w : World) (h : SigAt w a n l) (hr : n * 48 ≤ 140737488351232) :
    Calls Try.prog 14 #[.slice a n cap] w fun e w' => ∃ v, e = .returned v ∧ Lent w' w.heap.size v n l ∧ Below w.heap.size w w' := by
  obtain ⟨i0, hi, hz0, hz1, hz2⟩ := info_parts Try.info42
  have HS : Hid (SigAt w a n l) := h
  clear h
  by_cases hn : n = 0
  · subst hn
    have hl0 : l = [] := List.length_eq_zero_iff.1 HS.out.len.symm
    subst hl0
    have hown1 := own_empty w
    cases a with
    | none =>
      go_enter Try.func14, Try.ntmps14
      go_wp2_with (at_builtin; (refine wpList_append_lies _ rfl (.tmp 7) (.tmp 9) 27 rfl w.heap.size 42 i0 _ 4 48 Try.underlying27 hi hz0 hz1 hz2 rfl (by decide) (.slice (some ⟨w.heap.size, 0, none⟩) 0 0) 0 [] rfl (hown1.alloc _) ⟨w.heap.size + 1, 0, none⟩ 1 1 (symCells [markS]) rfl rfl (mark_news _ _ (by simp)) (symCells_oneCell _) (by decide) (by unfold maxLen; omega) (by omega) (by simp; omega) (w.heap.size + 2) (by simp) ?_); intro g2 cap2 w2 hown2 hgrow2 hat2 hlt2; simp only [Nat.zero_add, List.nil_append] at hown2; have hc2 := (own_cap hown2).2.1)
      have HO : Hid (w2.ownsRow w.heap.size 42 4 (.slice (some ⟨g2, 0, none⟩) 1 cap2) 1 (symCells [markS])) := hown2
      have HB2 : Hid (Below w.heap.size w w2) := (((Below.refl _ _).alloc (Nat.le_refl _) _).alloc (by simp) _).grown hgrow2 (by simp; omega) (fun k hk => by cases hk; exact Nat.le_refl _)
      clear hown1 hown2 hgrow2
      go_ret
      exact ⟨_, rfl, ⟨g2, cap2, rfl, (own_cap HO.out).1, hc2, sigAt_of_owns HO.out (by unfold maxLen; omega) (fun x hx => by simp at hx; subst hx; exact mark_fits)⟩, HB2.out⟩
    | some ad =>
      go_enter Try.func14, Try.ntmps14
      go_wp2_with (at_builtin; (refine wpList_append_lies _ rfl (.tmp 7) (.tmp 9) 27 rfl w.heap.size 42 i0 _ 4 48 Try.underlying27 hi hz0 hz1 hz2 rfl (by decide) (.slice (some ⟨w.heap.size, 0, none⟩) 0 0) 0 [] rfl (hown1.alloc _) ⟨w.heap.size + 1, 0, none⟩ 1 1 (symCells [markS]) rfl rfl (mark_news _ _ (by simp)) (symCells_oneCell _) (by decide) (by unfold maxLen; omega) (by omega) (by simp; omega) (w.heap.size + 2) (by simp) ?_); intro g2 cap2 w2 hown2 hgrow2 hat2 hlt2; simp only [Nat.zero_add, List.nil_append] at hown2; have hc2 := (own_cap hown2).2.1)
      have HO : Hid (w2.ownsRow w.heap.size 42 4 (.slice (some ⟨g2, 0, none⟩) 1 cap2) 1 (symCells [markS])) := hown2
      have HB2 : Hid (Below w.heap.size w w2) := (((Below.refl _ _).alloc (Nat.le_refl _) _).alloc (by simp) _).grown hgrow2 (by simp; omega) (fun k hk => by cases hk; exact Nat.le_refl _)
      clear hown1 hown2 hgrow2
      go_ret
      exact ⟨_, rfl, ⟨g2, cap2, rfl, (own_cap HO.out).1, hc2, sigAt_of_owns HO.out (by unfold maxLen; omega) (fun x hx => by simp at hx; subst hx; exact mark_fits)⟩, HB2.out⟩
  · have hlen : Hid (n = l.length) := HS.out.len
    obtain ⟨b, off, rfl, _⟩ := HS.out.cells 0 (by have := hlen.out; omega)
    have hsy : Hid (∀ i (h : i < l.length), SymAt w b (off + i * 4) l[i]) := by
      intro i hi
      obtain ⟨b', off', hbo, hs⟩ := HS.out.cells i hi
      simp only [Option.some.injEq, Addr.mk.injEq, and_true] at hbo
      obtain ⟨rfl, rfl⟩ := hbo
      exact hs
    have hnews : ∀ j u, (symCells l)[j]? = some u → (w.alloc (.cells #[] 42)).cell? ((⟨b, off, none⟩ : Addr).add j) = some u := by
      intro j u hu
      have e : (⟨b, off, none⟩ : Addr).add j = ⟨b, off + j, none⟩ := by unfold Addr.add; split <;> simp_all
      rw [e]
      exact news_of_syms l off (fun i hi => (hsy.out i hi).below ((Below.refl _ _).alloc (Nat.le_refl _) _)) j u hu
    have HN : Hid (∀ j u, (symCells l)[j]? = some u → (w.alloc (.cells #[] 42)).cell? ((⟨b, off, none⟩ : Addr).add j) = some u) := hnews
    clear hnews
    have hown0 := own_empty w
    go_enter Try.func14, Try.ntmps14
    go_wp2_with (first | (at_builtin; (refine wpList_append_lies _ rfl (.tmp 4) (.tmp 5) 27 rfl w.heap.size 42 i0 _ 4 48 Try.underlying27 hi hz0 hz1 hz2 rfl (by decide) (.slice (some ⟨w.heap.size, 0, none⟩) 0 0) 0 [] rfl hown0 ⟨b, off, none⟩ n cap (symCells l) rfl (by rw [symCells_length]; have := hlen.out; omega) HN.out (symCells_oneCell _) (by omega) (by unfold maxLen; omega) (by omega) (by simp) (w.heap.size + 1) (by simp) ?_); intro g1 cap1 w1 hown1 hgrow1 hat1 hlt1; simp only [Nat.zero_add, List.nil_append] at hown1; have HB1 : Hid (Below w.heap.size w w1) := ((Below.refl _ _).alloc (Nat.le_refl _) _).grown hgrow1 (by simp) (fun k hk => by cases hk; exact Nat.le_refl _)) | (at_builtin; (refine wpList_append_lies _ rfl (.tmp 7) (.tmp 9) 27 rfl w.heap.size 42 i0 _ 4 48 Try.underlying27 hi hz0 hz1 hz2 rfl (by decide) _ n (symCells l) rfl (hown1.alloc _) ⟨w1.heap.size, 0, none⟩ 1 1 (symCells [markS]) rfl rfl (mark_news w1 _ rfl) (symCells_oneCell _) (by decide) (by unfold maxLen; omega) (by omega) (by have := HB1.out.size; simp; omega) (w1.heap.size + 1) (by simp) ?_); intro g2 cap2 w2 hown2 hgrow2 hat2 hlt2; have hc2 := (own_cap hown2).2.1))
    have HO : Hid (w2.ownsRow w.heap.size 42 4 (.slice (some ⟨g2, 0, none⟩) (n + 1) cap2) (n + 1) (symCells (l ++ [markS]))) := by rw [symCells_append]; exact hown2
    have hg1 := (own_cap hown1).1
    have HB2 : Hid (Below w.heap.size w w2) := (HB1.out.alloc HB1.out.size _).grown hgrow2 (by have := HB1.out.size; simp; omega) (fun k hk => by cases hk; exact hg1)
    clear hown0 hown1 hown2 hgrow2 hgrow1
    go_ret
    exact ⟨_, rfl, ⟨g2, cap2, rfl, (own_cap HO.out).1, hc2, sigAt_of_owns HO.out (by unfold maxLen; omega) (fun x hx => by
      rcases List.mem_append.1 hx with hx | hx
      · exact HS.out.fits x hx
      · simp at hx; subst hx; exact mark_fits)⟩, HB2.out⟩
end Go.Proofs.Ytpngaeabkmbefaa
