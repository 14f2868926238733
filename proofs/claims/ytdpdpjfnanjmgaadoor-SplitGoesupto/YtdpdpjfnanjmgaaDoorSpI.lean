/- What All hands out, to any loop. -/
import Derived.Test.YtdpdpjfnanjmgaaDoorSpT
import Derived.Test.YtdpdpjfnanjmgaaDoorSpS
namespace Go.Proofs.YtdpdpjfnanjmgaaDoor
open Go.RowKit Go.Shelf

/-- A stack is no longer than its deals are made. -/
def Idx (st : List Dl) : Prop := ∀ j (h : j < st.length), j ≤ 7 * (st[j]).v.length
theorem Idx.push {st : List Dl} {d : Dl} (h : Idx st) (hd : st.length ≤ 7 * d.v.length) : Idx (st ++ [d]) := fun j hj => by
  by_cases e : j < st.length
  · rw [List.getElem_append_left e]; exact h j e
  · rw [List.length_append, List.length_singleton] at hj
    have e' : j = st.length := by omega
    subst e'
    simpa using hd
theorem idx_pushs {f : Nat → Nat → Nat} {K T : Nat} {k : List Nat} {st : List Dl} {d : Dl} (h : Idx st) (hl : st.length ≤ 7 * d.v.length) : ∀ i, i ≤ 7 → Idx (pushs f K T k st d i)
  | 0, _ => h
  | i + 1, hi => by
    rw [pushs]
    unfold pushd
    have h1 := idx_pushs (f := f) (K := K) (T := T) (k := k) h hl i (by omega)
    split
    · refine h1.push ?_
      have h2 := pushs_len f K T k st d i
      have h3 : (nextD K k d (topN K k d - i)).v.length = d.v.length + 1 := by simp [nextD]
      rw [h3]; omega
    · exact h1
theorem Idx.pop {st : List Dl} {d : Dl} (h : Idx (st ++ [d])) : Idx st ∧ st.length ≤ 7 * d.v.length := by
  refine ⟨fun j hj => ?_, ?_⟩
  · have := h j (by simp; omega)
    rwa [List.getElem_append_left hj] at this
  · have := h st.length (by simp)
    simpa using this
theorem Stk.pop {base : Nat} {w : World} {p : Option Addr} {n c : Nat} {st : List Dl} {d : Dl} (h : Stk base w (.slice p n c) (st ++ [d])) : n = st.length + 1 ∧ n ≤ c ∧ c ≤ maxLen ∧ ∃ g, p = some ⟨g, 0, none⟩ ∧ base ≤ g ∧ w.rangeAt g (st.length * 32) (dC d) ∧ Stk base w (.slice (some ⟨g, 0, none⟩) st.length c) st := by
  unfold Stk at h
  rw [List.length_append, List.length_singleton, stC_app] at h
  rcases h.2 with ⟨_, h2⟩ | ⟨g, cap, cur, h1, h2, h3, h4, h5, h6, h7⟩
  · exact absurd h2 (by omega)
  · injection h1 with e1 e2 e3
    subst e1 e2 e3
    refine ⟨rfl, h4, h5, g, rfl, h2, fun j v hj => ?_, ?_, .inr ⟨g, c, cur, rfl, h2, h3, by omega, h5, h6, ?_⟩⟩
    · have hjl : j < 32 := by have := (List.getElem?_eq_some_iff.1 hj).1; rwa [dC_len] at this
      refine cell_box h3 ?_
      have e1 : (cur.toList.take ((st.length + 1) * 32))[st.length * 32 + j]? = (stC st ++ dC d)[st.length * 32 + j]? := by rw [h7]
      rw [List.getElem?_take_of_lt (by omega), List.getElem?_append_right (by rw [stC_len]; omega), stC_len, show st.length * 32 + j - st.length * 32 = j by omega, hj] at e1
      simpa using e1
    · exact stC_len st
    · have e1 := congrArg (fun l => l.take (st.length * 32)) h7
      simp only [List.take_take] at e1
      rw [Nat.min_eq_left (by omega), List.take_left' (stC_len st)] at e1
      exact e1
end Go.Proofs.YtdpdpjfnanjmgaaDoor
