/- The words of a text, over bytes, without any program. -/
import Derived.Test.YtkcbhbkldcebiaaPlain
namespace Go.Proofs.Ytkcbhbkldcebiaa

/-- How far bytes of a kind follow. -/
def runN (p : Int → Bool) (s : ByteArray) : Nat → Nat → Nat
  | 0, k => k
  | f + 1, k => if p (bt s k) then runN p s f (k + 1) else k
def runTo (p : Int → Bool) (s : ByteArray) (k : Nat) : Nat := runN p s (s.size - k) k

theorem runTo_stop {p : Int → Bool} {s : ByteArray} {k : Nat} (h : p (bt s k) = false) : runTo p s k = k := by
  unfold runTo
  cases s.size - k with
  | zero => rfl
  | succ f => simp [runN, h]
theorem runTo_end {p : Int → Bool} {s : ByteArray} {k : Nat} (h : s.size ≤ k) : runTo p s k = k := by
  unfold runTo
  rw [show s.size - k = 0 by omega]; rfl
theorem runTo_step {p : Int → Bool} {s : ByteArray} {k : Nat} (hk : k < s.size) (h : p (bt s k) = true) : runTo p s k = runTo p s (k + 1) := by
  unfold runTo
  rw [show s.size - k = (s.size - (k + 1)) + 1 by omega]
  simp [runN, h]
theorem runN_ge (p : Int → Bool) (s : ByteArray) : ∀ f k, k ≤ runN p s f k
  | 0, k => Nat.le_refl _
  | f + 1, k => by
    unfold runN
    split
    · have := runN_ge p s f (k + 1); omega
    · exact Nat.le_refl _
theorem runN_le (p : Int → Bool) (s : ByteArray) : ∀ f k, runN p s f k ≤ k + f
  | 0, k => Nat.le_refl _
  | f + 1, k => by
    unfold runN
    split
    · have := runN_le p s f (k + 1); omega
    · omega
theorem runTo_ge (p : Int → Bool) (s : ByteArray) (k : Nat) : k ≤ runTo p s k := runN_ge p s _ k
theorem runTo_le {p : Int → Bool} {s : ByteArray} {k : Nat} (hk : k ≤ s.size) : runTo p s k ≤ s.size := by
  have := runN_le p s (s.size - k) k
  unfold runTo; omega
theorem runN_all (p : Int → Bool) (s : ByteArray) : ∀ f k j, k ≤ j → j < runN p s f k → p (bt s j) = true
  | 0, k, j, h1, h2 => by unfold runN at h2; omega
  | f + 1, k, j, h1, h2 => by
    unfold runN at h2
    split at h2
    · rename_i h
      by_cases e : k = j
      · subst e; exact h
      · exact runN_all p s f (k + 1) j (by omega) h2
    · omega
theorem runTo_all {p : Int → Bool} {s : ByteArray} {k j : Nat} (h1 : k ≤ j) (h2 : j < runTo p s k) : p (bt s j) = true := runN_all p s _ k j h1 h2
theorem runN_at (p : Int → Bool) (s : ByteArray) : ∀ f k, runN p s f k < k + f → p (bt s (runN p s f k)) = false
  | 0, k, h => by unfold runN at h; omega
  | f + 1, k, h => by
    unfold runN at h ⊢
    split
    · rename_i h'
      rw [if_pos h'] at h
      exact runN_at p s f (k + 1) (by omega)
    · rename_i h'
      simpa using h'
theorem runTo_at {p : Int → Bool} {s : ByteArray} {k : Nat} (hk : k ≤ s.size) (h : runTo p s k < s.size) : p (bt s (runTo p s k)) = false :=
  runN_at p s _ k (by unfold runTo at h; omega)
/-- What says where a run ends. -/
theorem runTo_eq {p : Int → Bool} {s : ByteArray} {k e : Nat} (hke : k ≤ e) (hes : e ≤ s.size) (ha : ∀ j, k ≤ j → j < e → p (bt s j) = true) (he : e < s.size → p (bt s e) = false) : runTo p s k = e := by
  have h1 : k ≤ s.size := by omega
  have g := runTo_ge p s k
  have l := runTo_le (p := p) h1
  rcases Nat.lt_trichotomy (runTo p s k) e with h | h | h
  · have := runTo_at (p := p) h1 (by omega)
    rw [ha _ g h] at this; cases this
  · exact h
  · have := runTo_all (p := p) hke h
    rw [he (by omega)] at this; cases this
theorem runTo_congr {p q : Int → Bool} {s : ByteArray} {k : Nat} (h : ∀ c, p c = q c) : runTo p s k = runTo q s k := by
  rw [show p = q from funext h]

structure Wd where
  kind : Int
  text : ByteArray
  place : Nat
structure Nx where
  word : Wd
  to : Nat
  err : Int

def noWd : Wd := ⟨0, ⟨#[]⟩, 0⟩
def blank (c : Int) : Bool := c == 32
/-- May this byte stand behind that first byte of a name or a variable? -/
def okTail (first c : Int) : Bool := digZ c || (lowZ c && first != 95) || (upZ c && upZ first)
def kindP (s : ByteArray) (b : Nat) : Int :=
  if lowZ (bt s b) then 1 else if upZ (bt s b) || bt s b == 95 then 2 else if bt s b == 40 then 3 else if bt s b == 41 then 4 else if bt s b == 44 then 5
  else if bt s b == 61 then 6 else if bt s b == 45 && bt s (b + 1) == 62 then 7 else 0
def lenK (k : Int) (s : ByteArray) (b : Nat) : Nat := if k == 1 || k == 2 then runTo (okTail (bt s b)) s (b + 1) else if k == 7 then b + 2 else b + 1
def endP (s : ByteArray) (b : Nat) : Nat := lenK (kindP s b) s b
def badP (s : ByteArray) (b : Nat) : Bool := kindP s b == 0 || (bt s b == 95 && (endP s b == b + 1 || bt s (b + 1) == 48))
def errP (s : ByteArray) (b : Nat) : Int := if badP s b then 21 else if b + 12 < endP s b then 22 else 0
def nx (s : ByteArray) (k : Nat) : Nx :=
  if s.size ≤ runTo blank s k then ⟨noWd, runTo blank s k, 0⟩
  else if errP s (runTo blank s k) = 0 then ⟨⟨kindP s (runTo blank s k), s.extract (runTo blank s k) (endP s (runTo blank s k)), runTo blank s k⟩, endP s (runTo blank s k), 0⟩
  else ⟨noWd, runTo blank s k, errP s (runTo blank s k)⟩

theorem bt_out {s : ByteArray} {j : Nat} (h : s.size ≤ j) : bt s j = 0 := by
  unfold bt; rw [dif_neg (by omega)]
theorem bt_ext (s : ByteArray) (b e j : Nat) (he : e ≤ s.size) : bt (s.extract b e) j = if b + j < e then bt s (b + j) else 0 := by
  unfold bt
  by_cases h : b + j < e
  · have h1 : j < (s.extract b e).size := by simp; omega
    have h2 : b + j < s.size := by omega
    rw [if_pos h, dif_pos h1, dif_pos h2, ByteArray.getElem_extract]
  · have h1 : ¬ j < (s.extract b e).size := by simp; omega
    rw [if_neg h, dif_neg h1]
theorem bt_tail (s : ByteArray) (b j : Nat) : bt (s.extract b s.size) j = bt s (b + j) := by
  rw [bt_ext s b s.size j (Nat.le_refl _)]
  split
  · rfl
  · rw [bt_out (by omega)]
theorem runTo_tail (p : Int → Bool) (s : ByteArray) (b k : Nat) (h : b + k ≤ s.size) : b + runTo p (s.extract b s.size) k = runTo p s (b + k) := by
  have hz : (s.extract b s.size).size = s.size - b := by simp
  have hk : k ≤ (s.extract b s.size).size := by omega
  have g := runTo_ge p (s.extract b s.size) k
  have l := runTo_le (p := p) hk
  refine (runTo_eq (by omega) (by omega) (fun j h1 h2 => ?_) (fun h1 => ?_)).symm
  · have := runTo_all (p := p) (s := s.extract b s.size) (k := k) (j := j - b) (by omega) (by omega)
    rw [bt_tail] at this
    rwa [show b + (j - b) = j by omega] at this
  · have := runTo_at (p := p) hk (by omega)
    rwa [bt_tail] at this
theorem kindP_tail (s : ByteArray) (b : Nat) : kindP (s.extract b s.size) 0 = kindP s b := by
  unfold kindP
  simp only [bt_tail, Nat.add_zero, Nat.zero_add]
theorem lenK_tail (k : Int) (s : ByteArray) (b : Nat) (h : b < s.size) : b + lenK k (s.extract b s.size) 0 = lenK k s b := by
  unfold lenK
  simp only [bt_tail, Nat.add_zero, Nat.zero_add]
  split
  · exact runTo_tail _ s b 1 (by omega)
  · split <;> rfl

theorem kindP_seven {s : ByteArray} {b : Nat} (h : kindP s b = 7) : bt s b = 45 ∧ bt s (b + 1) = 62 := by
  unfold kindP at h
  repeat' split at h
  all_goals first | omega | (rename_i h'; simpa using h')
theorem endP_gt (s : ByteArray) (b : Nat) : b < endP s b := by
  unfold endP lenK
  split
  · have := runTo_ge (okTail (bt s b)) s (b + 1); omega
  · split <;> omega
theorem endP_le {s : ByteArray} {b : Nat} (h : b < s.size) : endP s b ≤ s.size := by
  unfold endP lenK
  split
  · exact runTo_le (by omega)
  · split
    · rename_i h7
      have h7' : kindP s b = 7 := by simpa using h7
      have := (kindP_seven h7').2
      rcases Nat.lt_or_ge (b + 1) s.size with h' | h'
      · omega
      · rw [bt_out h'] at this; omega
    · omega
theorem errP_kind {s : ByteArray} {b : Nat} (h : errP s b = 0) : kindP s b ≠ 0 := by
  intro e
  unfold errP badP at h
  rw [e] at h
  simp at h
theorem errP_cases (s : ByteArray) (b : Nat) : errP s b = 21 ∨ errP s b = 22 ∨ errP s b = 0 := by
  unfold errP; split
  · exact .inl rfl
  · split
    · exact .inr (.inl rfl)
    · exact .inr (.inr rfl)

end Go.Proofs.Ytkcbhbkldcebiaa
