/- An append of the document's items, whatever there is to append. -/
import Derived.Test.YtlbmamkkbpjafaaBPl
import Derived.Laws.OwnMore
import Derived.Maps.AppendAt
namespace Go.Proofs.Ytlbmamkkbpjafaa
open Go.RowKit Go.Deep

set_option maxRecDepth 100000 in
theorem Try.info60 : (Try.prog.info? 60).map (fun i => (i.zero, i.size, i.bytes)) = some (some (.agg #[.int .i64 0, .int .i64 0, .int .i64 0]), 3, 24) := by kernel_rfl
/-- What an append of items leaves. -/
structure AppR (base : Nat) (w : World) (v : Value) (n m : Nat) (xs : List Value) (p' : Option Addr) (c' : Nat) (w' : World) : Prop where
  own : w'.ownsRow base 60 3 (.slice p' (n + m) c') (n + m) xs
  grown : w.grownBy w' v.ownBlock
  blk : p'.map Addr.block = v.ownBlock ∨ p'.map Addr.block = some w.heap.size
theorem run_app (ty base : Nat) (v : Value) (n : Nat) (xs : List Value) (w : World) (hown : w.ownsRow base 60 3 v n xs) (px : Option Addr) (m cx : Nat) (news : List Value)
    (hsrc : (px = none ∧ m = 0 ∧ cx = 0 ∧ news = []) ∨ ∃ ad, px = some ad ∧ news.length = m * 3 ∧ ∀ j u, news[j]? = some u → w.cell? (ad.add j) = some u) (h1 : ∀ u ∈ news, u.oneCell' = true) (hb : n + m ≤ 2097153) (hbase : base ≤ w.heap.size) :
    ∃ p' c' w', (Builtin.append_ #[25, 25] ty #[v, .slice px m cx]).run Try.prog w = .ok (.slice p' (n + m) c') w' ∧ AppR base w v n m (xs ++ news) p' c' w' := by
  obtain ⟨i0, hi0, hz0, hz1, hz2⟩ := info_parts Try.info60
  have form : ∀ {W : World} {v' : Value} {k : Nat} {ys : List Value}, W.ownsRow base 60 3 v' k ys → ∃ p' c', v' = .slice p' k c' := by
    intro W v' k ys h
    rcases h.2 with ⟨h2, h3⟩ | ⟨g, c, _, h2, _⟩
    · exact ⟨none, 0, by rw [h2, h3]⟩
    · exact ⟨_, _, h2⟩
  rcases hsrc with ⟨rfl, rfl, rfl, rfl⟩ | ⟨ad, rfl, hl, hnews⟩
  · obtain ⟨p', c', rfl⟩ := form hown
    refine ⟨p', c', w, run_append_owned_none (P := Try.prog) (w := w) base 25 ty 60 i0 3 Try.underlying25 hi0 _ n xs hown, ?_, World.grownBy.refl _ _, .inl (own_eq p' n c').symm⟩
    rw [List.append_nil]
    exact hown
  · obtain ⟨v', w', hr, h2, h3, _, h5⟩ := run_append_own_at (P := Try.prog) w base 25 ty 60 i0 _ 3 24 Try.underlying25 hi0 hz0 hz1 hz2 rfl (by decide) v n xs hown ad m cx news hl hnews h1 (by unfold maxLen; omega) (by omega) hbase
    obtain ⟨p', c', rfl⟩ := form h2
    rw [own_eq] at h5
    exact ⟨p', c', w', hr, h2, h3, h5⟩
end Go.Proofs.Ytlbmamkkbpjafaa
