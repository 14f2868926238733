/- What the document's Next answers. -/
import Derived.Test.YtlbmamkkbpjafabBInts
namespace Go.Proofs.Ytlbmamkkbpjafab
open Go.RowKit Go.Deep

set_option maxRecDepth 100000 in
theorem Try.info3 : (Try.prog.info? 3).map (fun i => (i.zero, i.size, i.bytes)) = some (some (.int .i64 0), 1, 8) := by kernel_rfl
theorem heap_set_cells {w : World} {B i : Nat} {cs : Array Value} {t : TypeId} {fr : Nat × Nat} (v : Value) (h : w.heap[B]? = some (.cells cs t fr)) : (w.setCell ⟨B, i, none⟩ v).heap[B]? = some (.cells (cs.setIfInBounds i v) t fr) := by
  obtain ⟨hlt, hk⟩ := Array.getElem?_eq_some_iff.1 h
  show (w.heap.modify B _)[B]? = _
  rw [Array.getElem?_eq_getElem (by rw [Array.size_modify]; exact hlt), Array.getElem_modify_self, hk]
  rfl
theorem owns_set {w : World} {base e size g n cap : Nat} {xs : List Value} (h : w.ownsRow base e size (.slice (some ⟨g, 0, none⟩) n cap) n xs) (j : Nat) (v : Value) :
    (w.setCell ⟨g, j, none⟩ v).ownsRow base e size (.slice (some ⟨g, 0, none⟩) n cap) n (xs.set j v) := by
  obtain ⟨hl, h⟩ := h
  refine ⟨by simpa using hl, ?_⟩
  rcases h with ⟨hv, _⟩ | ⟨g', cap', cur, hv, hb, hg, hnc, hcm, hsz, hcur⟩
  · cases hv
  · simp only [Value.slice.injEq, Option.some.injEq, Addr.mk.injEq, and_true, true_and] at hv
    obtain ⟨rfl, rfl⟩ := hv
    refine .inr ⟨g, cap, _, rfl, hb, heap_set_cells v hg, hnc, hcm, by simpa using hsz, ?_⟩
    rw [← hcur, Array.toList_setIfInBounds, List.take_set]
theorem owns_frozen {w : World} {base e size g n cap : Nat} {xs : List Value} (h : w.ownsRow base e size (.slice (some ⟨g, 0, none⟩) n cap) n xs) (j : Nat) : w.frozen? ⟨g, j, none⟩ = false := by
  rcases h.2 with ⟨hv, _⟩ | ⟨g', cap', cur, hv, hb, hg, _⟩
  · cases hv
  · simp only [Value.slice.injEq, Option.some.injEq, Addr.mk.injEq, and_true, true_and] at hv
    obtain ⟨rfl, rfl⟩ := hv
    simp [World.frozen?, hg]
theorem owns_base {w : World} {base base' e size n : Nat} {v : Value} {xs : List Value} (h : w.ownsRow base e size v n xs) (hb : base' ≤ base) : w.ownsRow base' e size v n xs := by
  obtain ⟨hl, h⟩ := h
  refine ⟨hl, ?_⟩
  rcases h with h | ⟨g, cap, cur, h1, h2, h3⟩
  · exact .inl h
  · exact .inr ⟨g, cap, cur, h1, Nat.le_trans hb h2, h3⟩
/-- A row of counts, by its values alone. -/
theorem crow_set {W : World} {base g d n : Nat} {cs : List Int} (h : W.ownsRow base 3 1 (.slice (some ⟨g, 0, none⟩) n d) n (cAll cs)) (i : Nat) (x : Int) : (W.setCell ⟨g, i, none⟩ (.int .i64 x)).ownsRow base 3 1 (.slice (some ⟨g, 0, none⟩) n d) n (cAll (cs.set i x)) := by
  have := owns_set h i (.int .i64 x)
  unfold cAll at this ⊢
  rwa [List.map_set]
/-- The counts behind these, the wheels from k on being at their ends. -/
def riseAt (l : List It) (cs : List Int) : Nat → List Int × Bool
  | 0 => (List.replicate cs.length 0, false)
  | k + 1 => match l[k]?, cs[k]? with
    | some y, some c => if c < y.2 then (cs.take k ++ (c + 1) :: List.replicate (cs.length - (k + 1)) 0, true) else riseAt l cs k
    | _, _ => riseAt l cs k
def riseP (l : List It) (cs : List Int) : List Int × Bool := riseAt l cs cs.length
/-- The counts under way: those below k as they were, the others 0. -/
def wayC (cs : List Int) (k : Nat) : List Int := cs.take k ++ List.replicate (cs.length - k) 0
theorem wayC_len {cs : List Int} {k : Nat} (hk : k ≤ cs.length) : (wayC cs k).length = cs.length := by simp [wayC]; omega
theorem wayC_all (cs : List Int) : wayC cs cs.length = cs := by simp [wayC]
theorem wayC_none (cs : List Int) : wayC cs 0 = List.replicate cs.length 0 := by simp [wayC]
theorem wayC_at {cs : List Int} {k : Nat} (hk : k < cs.length) : (wayC cs (k + 1))[k]? = some cs[k] := by
  unfold wayC
  rw [List.getElem?_append_left (by simp; omega), List.getElem?_take_of_lt (by omega), List.getElem?_eq_getElem hk]
theorem wayC_set {cs : List Int} {k : Nat} (hk : k < cs.length) (x : Int) : (wayC cs (k + 1)).set k x = cs.take k ++ x :: List.replicate (cs.length - (k + 1)) 0 := by
  unfold wayC
  rw [List.take_succ_eq_append_getElem hk, List.append_assoc, List.set_append_right _ _ (by simp; omega), List.length_take, Nat.min_eq_left (Nat.le_of_lt hk), Nat.sub_self]
  rfl
theorem wayC_down {cs : List Int} {k : Nat} (hk : k < cs.length) : (wayC cs (k + 1)).set k 0 = wayC cs k := by
  rw [wayC_set hk]
  unfold wayC
  rw [show cs.length - k = cs.length - (k + 1) + 1 by omega, List.replicate_succ]
theorem riseAt_succ {l : List It} {cs : List Int} {k : Nat} (hl : k < l.length) (hc : k < cs.length) : riseAt l cs (k + 1) = if cs[k] < l[k].2 then (cs.take k ++ (cs[k] + 1) :: List.replicate (cs.length - (k + 1)) 0, true) else riseAt l cs k := by
  show (match l[k]?, cs[k]? with | some y, some c => if c < y.2 then (cs.take k ++ (c + 1) :: List.replicate (cs.length - (k + 1)) 0, true) else riseAt l cs k | _, _ => riseAt l cs k) = _
  rw [List.getElem?_eq_getElem hl, List.getElem?_eq_getElem hc]
theorem riseAt_len (l : List It) (cs : List Int) : ∀ k, k ≤ cs.length → (riseAt l cs k).1.length = cs.length
  | 0, _ => by simp [riseAt]
  | k + 1, hk => by
    have ih := riseAt_len l cs k (by omega)
    unfold riseAt
    split
    · split
      · simp; omega
      · exact ih
    · exact ih
theorem src_c {W : World} {base : Nat} {q : Option Addr} {d : Nat} {cs : List Int} (h : CRow W base q d cs) : (q = none ∧ cs.length = 0 ∧ d = 0 ∧ cAll cs = []) ∨ ∃ ad, q = some ad ∧ (cAll cs).length = cs.length * 1 ∧ ∀ j u, (cAll cs)[j]? = some u → W.cell? (ad.add j) = some u := by
  rcases h.2 with ⟨h2, h3⟩ | ⟨g, cap, cur, h1, _⟩
  · injection h2 with e1 e2 e3
    exact .inl ⟨e1, h3, e3, by rw [List.length_eq_zero_iff.1 h3]; rfl⟩
  · obtain ⟨e1, _, e3⟩ := Value.slice.inj h1
    subst e1
    exact .inr ⟨_, rfl, by simp [cAll], fun j u hj => h.cells (g := g) rfl j u hj⟩
theorem run_appC (ty base : Nat) (v : Value) (n : Nat) (xs : List Value) (w : World) (hown : w.ownsRow base 3 1 v n xs) (px : Option Addr) (m cx : Nat) (news : List Value)
    (hsrc : (px = none ∧ m = 0 ∧ cx = 0 ∧ news = []) ∨ ∃ ad, px = some ad ∧ news.length = m * 1 ∧ ∀ j u, news[j]? = some u → w.cell? (ad.add j) = some u) (h1 : ∀ u ∈ news, u.oneCell' = true) (hb : n + m ≤ 2097153) (hbase : base ≤ w.heap.size) :
    ∃ p' c' w', (Builtin.append_ #[53, 53] ty #[v, .slice px m cx]).run Try.prog w = .ok (.slice p' (n + m) c') w' ∧ w'.ownsRow base 3 1 (.slice p' (n + m) c') (n + m) (xs ++ news) ∧ w.grownBy w' v.ownBlock := by
  obtain ⟨i0, hi0, hz0, hz1, hz2⟩ := info_parts Try.info3
  have form : ∀ {W : World} {v' : Value} {k : Nat} {ys : List Value}, W.ownsRow base 3 1 v' k ys → ∃ p' c', v' = .slice p' k c' := by
    intro W v' k ys h
    rcases h.2 with ⟨h2, h3⟩ | ⟨g, c, _, h2, _⟩
    · exact ⟨none, 0, by rw [h2, h3]⟩
    · exact ⟨_, _, h2⟩
  rcases hsrc with ⟨rfl, rfl, rfl, rfl⟩ | ⟨ad, rfl, hl, hnews⟩
  · obtain ⟨p', c', rfl⟩ := form hown
    refine ⟨p', c', w, run_append_owned_none (P := Try.prog) (w := w) base 53 ty 3 i0 1 Try.underlying53 hi0 _ n xs hown, ?_, World.grownBy.refl _ _⟩
    rw [List.append_nil]
    exact hown
  · obtain ⟨v', w', hr, h2, h3, _, h5⟩ := run_append_own_at (P := Try.prog) w base 53 ty 3 i0 _ 1 8 Try.underlying53 hi0 hz0 hz1 hz2 rfl (by decide) v n xs hown ad m cx news hl hnews h1 (by unfold maxLen; omega) (by omega) hbase
    obtain ⟨p', c', rfl⟩ := form h2
    exact ⟨p', c', w', hr, h2, h3⟩
/-- What Next answers. -/
def NextEnd (w : World) (r : List Int × Bool) (e : Ending) (w' : World) : Prop := ∃ q d, e = .returned (.tuple #[.slice q (if r.2 then r.1.length else 0) d, .bool r.2]) ∧ (r.2 = true → CRow w' w.heap.size q d r.1) ∧ Below w.heap.size w w'
end Go.Proofs.Ytlbmamkkbpjafab
