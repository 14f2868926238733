/- What the document's Plain makes. -/
import Derived.Test.YtpngaeabkmbefaaPlainW
namespace Go.Proofs.Ytpngaeabkmbefaa
open Go.RowKit

theorem sym_news (w : World) (H : Nat) (hH : w.heap.size = H) (y : Sym) : ∀ j u, (symCells [y])[j]? = some u → (w.alloc (.cells #[.string y.name, .int .i64 y.kind, .int .i64 y.arity, .string y.unit] 42)).cell? ((⟨H, 0, none⟩ : Addr).add j) = some u := by
  subst hH
  exact World.news_of_block (cs := #[.string y.name, .int .i64 y.kind, .int .i64 y.arity, .string y.unit]) (t := 42) (fr := (0, 0)) (heap_alloc_new w _)
theorem sigAt_of_owns_any {w : World} {base n : Nat} {v : Value} {l : List Sym} (h : w.ownsRow base 42 4 v n (symCells l)) (hm : n ≤ maxLen) (hf : ∀ x ∈ l, x.Fits) : ∃ a cap, v = .slice a n cap ∧ SigAt w a n l := by
  rcases h.2 with ⟨hv, h0⟩ | ⟨g, cap, cur, hv, _⟩
  · have hl := h.1
    rw [symCells_length, h0] at hl
    have : l = [] := List.length_eq_zero_iff.1 (by omega)
    subst this
    exact ⟨none, 0, by rw [hv, h0], by simp [h0], by omega, fun i hi => absurd hi (by simp), fun x hx => absurd hx (by simp)⟩
  · subst hv
    exact ⟨_, _, rfl, sigAt_of_owns h hm hf⟩
theorem plain_succ {l : List Sym} {k : Nat} (hk : k < l.length) : symCells ((l.take (k + 1)).map plainS) = symCells ((l.take k).map plainS) ++ symCells [plainS l[k]] := by
  rw [List.take_succ_eq_append_getElem hk, List.map_append, symCells_append]; rfl

theorem own_base {w : World} {base n : Nat} {e : TypeId} {z : Nat} {v : Value} {xs : List Value} (h : w.ownsRow base e z v n xs) : ∀ k, v.ownBlock = some k → base ≤ k := by
  intro k hk
  rcases h.2 with ⟨hv, _⟩ | ⟨g, cap, cur, hv, hb, _⟩
  · subst hv; cases hk
  · subst hv; cases hk; exact hb

set_option maxHeartbeats 400000 in
theorem rplain_any (a : Option Addr) (n cap : Nat) (l : List Sym) (w : World) (h : SigAt w a n l) (hr : n * 48 ≤ 140737488351232) :
    Calls Try.prog 26 #[.slice a n cap] w fun e w' => ∃ a' cap', e = .returned (.slice a' n cap') ∧ SigAt w' a' n (l.map plainS) ∧ Below w.heap.size w w' := by
  obtain ⟨i0, hi, hz0, hz1, hz2⟩ := info_parts Try.info42
  have HS : Hid (SigAt w a n l) := h
  have hlen : Hid (n = l.length) := h.len
  clear h
  go_enter Try.func26, Try.ntmps26
  go_wp2
  go_loopw [3, 4, 5] (fun v i _ w' => ∃ k : Nat, k ≤ n ∧ i = .int .i64 k ∧ w'.ownsRow w.heap.size 42 4 v k (symCells ((l.take k).map plainS)) ∧ Below w.heap.size w w') (fun _ i _ _ => n - (intOf i).toNat)
  case atStart => exact ⟨0, Nat.zero_le _, rfl, World.ownsRow_nil _ _ _ _, Below.refl _ _⟩
  case round =>
    obtain ⟨k, hk, rfl, hown, hb⟩ := hrel
    have HB : Hid (Below w.heap.size w wr) := hb
    by_cases hlt : k < n
    · have hlk : k < l.length := by have := hlen.out; omega
      obtain ⟨b, off, rfl, hsym⟩ := HS.out.cells k hlk
      have hw := hsym.below hb
      have c0 := hw.name
      have c1 := hw.kind
      have c2 := hw.arity
      have c3 := hw.unit
      clear hw hsym hb
      cases hk3 : (l[k].kind == 3)
      · have hp : Hid (l[k] = plainS l[k]) := (plainS_not (by simpa using hk3)).symm
        go_wp2_with (at_builtin; refine wpList_append_lies _ rfl (.tmp 21) (.tmp 23) 27 rfl w.heap.size 42 i0 _ 4 48 Try.underlying27 hi hz0 hz1 hz2 rfl (by decide) u3 k _ rfl ((hown.alloc _).alloc _) ⟨wr.heap.size + 1, 0, none⟩ 1 1 (symCells [l[k]]) rfl rfl (sym_news _ _ (by simp) _) (symCells_oneCell _) (by decide) (by unfold maxLen; omega) (by omega) (by have := HB.out.size; simp; omega) (wr.heap.size + 2) (by simp) ?_; intro g1 cap1 w1 hown1 hgrow1 hat1 hlt1)
        have HB2 := ((HB.out.alloc HB.out.size _).alloc (by have := HB.out.size; simp; omega) _).grown hgrow1 (by have := HB.out.size; simp; omega) (own_base hown)
        go_roundw
        case rel => exact ⟨k + 1, by omega, by go_num, by rw [plain_succ hlk, ← hp.out]; exact hown1, HB2⟩
        case measure => simp [intOf]; omega
      · have hp : Hid ((⟨l[k].name, 2, l[k].arity, ⟨#[]⟩⟩ : Sym) = plainS l[k]) := (plainS_is (by simpa using hk3)).symm
        go_wp2_with (at_builtin; refine wpList_append_lies _ rfl (.tmp 21) (.tmp 23) 27 rfl w.heap.size 42 i0 _ 4 48 Try.underlying27 hi hz0 hz1 hz2 rfl (by decide) u3 k _ rfl ((hown.alloc _).alloc _) ⟨wr.heap.size + 1, 0, none⟩ 1 1 (symCells [⟨l[k].name, 2, l[k].arity, ⟨#[]⟩⟩]) rfl rfl (sym_news _ _ (by simp) _) (symCells_oneCell _) (by decide) (by unfold maxLen; omega) (by omega) (by have := HB.out.size; simp; omega) (wr.heap.size + 2) (by simp) ?_; intro g1 cap1 w1 hown1 hgrow1 hat1 hlt1)
        have HB2 := ((HB.out.alloc HB.out.size _).alloc (by have := HB.out.size; simp; omega) _).grown hgrow1 (by have := HB.out.size; simp; omega) (own_base hown)
        go_roundw
        case rel => exact ⟨k + 1, by omega, by go_num, by rw [plain_succ hlk, ← hp.out]; exact hown1, HB2⟩
        case measure => simp [intOf]; omega
    · have hkn : Hid (k = n) := by show k = n; omega
      have hfin : Hid (∃ a' cap', u3 = .slice a' n cap' ∧ SigAt wr a' n (l.map plainS)) := by
        have h1 := hown
        rw [hkn.out, List.take_of_length_le (by have := hlen.out; omega)] at h1
        exact sigAt_of_owns_any h1 (by unfold maxLen; omega) (fun x hx => by
          obtain ⟨y, hy, rfl⟩ := List.mem_map.1 hx
          exact plainS_fits (HS.out.fits y hy))
      clear hown hb
      go_wp2
      go_ret
      obtain ⟨a', cap', hv, hs⟩ := hfin.out
      exact ⟨a', cap', by rw [← hv]; rfl, hs, HB.out⟩
end Go.Proofs.Ytpngaeabkmbefaa
