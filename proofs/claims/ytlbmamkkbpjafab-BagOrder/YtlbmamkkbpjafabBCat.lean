/- What Concat answers. -/
import Derived.Test.YtlbmamkkbpjafabBRead
import Derived.Lib.AppendZeros
namespace Go.Proofs.Ytlbmamkkbpjafab
open Go.RowKit Go.Deep

theorem run_appI (ty base : Nat) (v : Value) (n : Nat) (xs : List Value) (w : World) (hown : w.ownsRow base 32 3 v n xs) (px : Option Addr) (m cx : Nat) (news : List Value)
    (hsrc : (px = none ∧ m = 0 ∧ cx = 0 ∧ news = []) ∨ ∃ ad, px = some ad ∧ news.length = m * 3 ∧ ∀ j u, news[j]? = some u → w.cell? (ad.add j) = some u) (h1 : ∀ u ∈ news, u.oneCell' = true) (hb : n + m ≤ 4194304) (hbase : base ≤ w.heap.size) :
    ∃ p' c' w', (Builtin.append_ #[29, 29] ty #[v, .slice px m cx]).run Try.prog w = .ok (.slice p' (n + m) c') w' ∧ w'.ownsRow base 32 3 (.slice p' (n + m) c') (n + m) (xs ++ news) ∧ w.grownBy w' v.ownBlock := by
  obtain ⟨i0, hi0, hz0, hz1, hz2⟩ := info_parts Try.info32
  rcases hsrc with ⟨rfl, rfl, rfl, rfl⟩ | ⟨ad, rfl, hl, hnews⟩
  · obtain ⟨p', c', rfl⟩ := owns65_form hown
    refine ⟨p', c', w, run_append_owned_none (P := Try.prog) (w := w) base 29 ty 32 i0 3 Try.underlying29 hi0 _ n xs hown, ?_, World.grownBy.refl _ _⟩
    rw [List.append_nil]
    exact hown
  · obtain ⟨v', w', hr, h2, h3, _, h5⟩ := run_append_own_at (P := Try.prog) w base 29 ty 32 i0 _ 3 24 Try.underlying29 hi0 hz0 hz1 hz2 rfl (by decide) v n xs hown ad m cx news hl hnews h1 (by unfold maxLen; omega) (by omega) hbase
    obtain ⟨p', c', rfl⟩ := owns65_form h2
    exact ⟨p', c', w', hr, h2, h3⟩
theorem src_its {W : World} {base : Nat} {p : Option Addr} {c : Nat} {l : List It} (h : W.ownsRow base 32 3 (.slice p l.length c) l.length (itAll l)) : (p = none ∧ l.length = 0 ∧ c = 0 ∧ itAll l = []) ∨ ∃ ad, p = some ad ∧ (itAll l).length = l.length * 3 ∧ ∀ j u, (itAll l)[j]? = some u → W.cell? (ad.add j) = some u := by
  rcases h.2 with ⟨h2, h3⟩ | ⟨g, cap, cur, h1, _⟩
  · obtain ⟨e1, _, e3⟩ := Value.slice.inj h2
    exact .inl ⟨e1, h3, e3, by rw [List.eq_nil_of_length_eq_zero h3]; rfl⟩
  · obtain ⟨e1, _, _⟩ := Value.slice.inj h1
    subst e1
    exact .inr ⟨_, rfl, itAll_len l, fun j u hj => h.cells (g := g) rfl j u hj⟩
end Go.Proofs.Ytlbmamkkbpjafab
