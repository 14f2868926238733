/- Words in memory whose places are turned one after another; parts of slices of words. -/
import Derived.Test.YtfkfehkbdmemnaaApart
namespace Go.Proofs.Ytfkfehkbdmemnaa
open Go.RowKit

theorem words_place (s : ByteArray) : ∀ n k, k ≤ s.size → s.size - k ≤ n → ∀ x ∈ wordsFrom s k, x.place < s.size := by
  intro n
  induction n with
  | zero =>
    intro k hk hn x hx
    cases h : nxStop (nx s k)
    · have hw := (nx_word h).1
      have h1 := hw.gt; have h2 := hw.from'; have h3 := hw.le
      omega
    · rw [words_stop hk h] at hx; cases hx
  | succ n ih =>
    intro k hk hn x hx
    cases h : nxStop (nx s k)
    · have hw := (nx_word h).1
      have h1 := hw.gt; have h2 := hw.from'; have h3 := hw.le
      rw [words_go hk h] at hx
      rcases List.mem_cons.1 hx with rfl | hx
      · exact hw.lt
      · exact ih _ h3 (by omega) x hx
    · rw [words_stop hk h] at hx; cases hx

/-- The words with the first k of them turned. -/
def turnK (d : Nat) (ws : List Wd) (k : Nat) : List Wd := (ws.take k).map (shiftW d) ++ ws.drop k
theorem turnK_len (d : Nat) (ws : List Wd) (k : Nat) : (turnK d ws k).length = ws.length := by simp [turnK]; omega
theorem turnK_zero (d : Nat) (ws : List Wd) : turnK d ws 0 = ws := by simp [turnK]
theorem turnK_all (d : Nat) (ws : List Wd) : turnK d ws ws.length = ws.map (shiftW d) := by simp [turnK]
theorem turnK_at (d : Nat) (ws : List Wd) (k : Nat) (h : k < ws.length) (h' : k < (turnK d ws k).length) : (turnK d ws k)[k]'h' = ws[k] := by
  have hl : ((ws.take k).map (shiftW d)).length = k := by simp; omega
  simp only [turnK]
  rw [List.getElem_append_right (by omega)]
  simp only [List.getElem_drop, List.length_map, List.length_take]
  congr 1
  omega
theorem turnK_succ (d : Nat) (ws : List Wd) (k : Nat) (h : k < ws.length) : (turnK d ws k).set k (shiftW d ws[k]) = turnK d ws (k + 1) := by
  apply List.ext_getElem
  · simp [turnK_len]
  · intro i h1 h2
    rw [List.getElem_set]
    simp only [List.length_set] at h1
    rw [turnK_len] at h1 h2
    simp only [turnK]
    rcases Nat.lt_trichotomy i k with hi | hi | hi
    · rw [if_neg (by omega), List.getElem_append_left (by simp; omega), List.getElem_append_left (by simp; omega)]
      simp
    · subst hi
      rw [if_pos rfl, List.getElem_append_left (by simp; omega)]
      simp
    · rw [if_neg (by omega), List.getElem_append_right (by simp; omega), List.getElem_append_right (by simp; omega)]
      simp only [List.getElem_drop, List.length_map, List.length_take]
      congr 1
      omega

theorem wdCells_set : ∀ (ws : List Wd) (i : Nat) (h : i < ws.length) (z : Nat), (wdCells ws).set (i * 3 + 2) (.int .i64 (z : Int)) = wdCells (ws.set i ⟨ws[i].kind, ws[i].text, z⟩)
  | x :: r, 0, _, z => by simp [wdCells, Wd.cells]
  | x :: r, i + 1, h, z => by
    have ih := wdCells_set r i (by simpa using h) z
    have e : ∀ (y : Wd) (l : List Wd), wdCells (y :: l) = y.cells ++ wdCells l := fun y l => by simp [wdCells]
    have hl : x.cells.length = 3 := rfl
    rw [List.set_cons_succ, e, e, List.set_append, if_neg (by omega), hl, show (i + 1) * 3 + 2 - 3 = i * 3 + 2 by omega]
    simp only [List.getElem_cons_succ]
    rw [ih]
theorem owns_set {w : World} {base e size g n cap : Nat} {xs : List Value} (h : w.ownsRow base e size (.slice (some ⟨g, 0, none⟩) n cap) n xs) (j : Nat) (v : Value) :
    (w.setCell ⟨g, j, none⟩ v).ownsRow base e size (.slice (some ⟨g, 0, none⟩) n cap) n (xs.set j v) := by
  obtain ⟨hl, h⟩ := h
  refine ⟨by simpa using hl, ?_⟩
  rcases h with ⟨hv, _⟩ | ⟨g', cap', cur, hv, hb, hg, hnc, hcm, hsz, hcur⟩
  · cases hv
  · simp only [Value.slice.injEq, Option.some.injEq, Addr.mk.injEq, and_true, true_and] at hv
    obtain ⟨rfl, rfl⟩ := hv
    refine .inr ⟨g, cap, _, rfl, hb, heap_set_cells v hg, hnc, hcm, by simpa using hsz, ?_⟩
    rw [← hcur, Array.toList_setIfInBounds, List.take_set]
theorem owns_frozen {w : World} {base e size g n cap : Nat} {xs : List Value} (h : w.ownsRow base e size (.slice (some ⟨g, 0, none⟩) n cap) n xs) (j : Nat) : w.frozen? ⟨g, j, none⟩ = false := by
  rcases h.2 with ⟨hv, _⟩ | ⟨g', cap', cur, hv, hb, hg, _⟩
  · cases hv
  · simp only [Value.slice.injEq, Option.some.injEq, Addr.mk.injEq, and_true, true_and] at hv
    obtain ⟨rfl, rfl⟩ := hv
    simp [World.frozen?, hg]

theorem WdsAt.grown {w w' : World} {a : Option Addr} {n : Nat} {ws : List Wd} (h : WdsAt w a n ws) {row : Option Nat} (hg : w.grownBy w' row) (hne : ∀ b off, a = some ⟨b, off, none⟩ → some b ≠ row) : WdsAt w' a n ws :=
  ⟨h.len, h.small, fun i hi => by
    obtain ⟨b, off, ha, hc⟩ := h.cells i hi
    exact ⟨b, off, ha, hc.block (hg.block b hc.lt (hne b off ha))⟩⟩
theorem WdsAt.take {w : World} {a : Option Addr} {n k : Nat} {ws : List Wd} (h : WdsAt w a n ws) (hk : k ≤ n) : WdsAt w a k (ws.take k) := by
  have hl := h.len
  refine ⟨by simp; omega, by have := h.small; omega, fun i hi => ?_⟩
  obtain ⟨b, off, ha, hc⟩ := h.cells i (by simp at hi; omega)
  exact ⟨b, off, ha, by rw [List.getElem_take]; exact hc⟩
theorem WdsAt.drop {w : World} {b off n k : Nat} {ws : List Wd} (h : WdsAt w (some ⟨b, off, none⟩) n ws) : WdsAt w (some ⟨b, off + k * 3, none⟩) (n - k) (ws.drop k) := by
  have hl := h.len
  refine ⟨by simp; omega, by have := h.small; omega, fun i hi => ?_⟩
  simp at hi
  obtain ⟨b', off', ha, hc⟩ := h.cells (k + i) (by omega)
  cases ha
  refine ⟨b, off + k * 3, rfl, ?_⟩
  rw [List.getElem_drop]
  rw [show off + k * 3 + i * 3 = off + (k + i) * 3 by omega]
  exact hc
end Go.Proofs.Ytfkfehkbdmemnaa
