/- For every signature and every text TextBlanks returns true: blanks around signs change nothing of what Term of package text reads, and what was handed in stays; no condition. -/
import Derived.Test.YtkcbhbkldcebiaaXPure
import Derived.Test.YtkcbhbkldcebiaaZRead
import Derived.Test.YtkcbhbkldcebiaaTTWalk
namespace Go.Proofs.Ytkcbhbkldcebiaa

def sgn (c : Int) : Bool := c == 40 || c == 41 || c == 44
/-- t is s with blanks around its signs; f tells where each place of s has come to. -/
structure Wide (s t : ByteArray) (f : Nat → Nat) : Prop where
  last : f s.size = t.size
  step : ∀ k, k < s.size → sgn (bt s k) = false → f (k + 1) = f k + 1
  sign : ∀ k, k < s.size → sgn (bt s k) = true → f (k + 1) = f k + 4
  byte : ∀ k, k < s.size → sgn (bt s k) = false → bt t (f k) = bt s k
  four : ∀ k, k < s.size → sgn (bt s k) = true → bt t (f k) = 32 ∧ bt t (f k + 1) = bt s k ∧ bt t (f k + 2) = 32 ∧ bt t (f k + 3) = 32
/-- The same place, but for blanks. -/
structure At (s t : ByteArray) (f : Nat → Nat) (k k' : Nat) : Prop where
  le : k ≤ s.size
  low : k' ≤ f k
  gap : ∀ j, k' ≤ j → j < f k → bt t j = 32
variable {s t : ByteArray} {f : Nat → Nat}

theorem Wide.lt (h : Wide s t f) {k : Nat} (hk : k < s.size) : f k < f (k + 1) := by
  cases hs : sgn (bt s k) with
  | false => rw [h.step k hk hs]; omega
  | true => rw [h.sign k hk hs]; omega
theorem Wide.mono (h : Wide s t f) {j : Nat} : ∀ {k : Nat}, k ≤ j → j ≤ s.size → f k ≤ f j := by
  intro k hk hj
  induction j with
  | zero => have : k = 0 := by omega
            subst this; exact Nat.le_refl _
  | succ j ih =>
    by_cases e : k = j + 1
    · subst e; exact Nat.le_refl _
    · have h1 := ih (by omega) (by omega)
      have h2 := h.lt (k := j) (by omega)
      omega
theorem Wide.le (h : Wide s t f) {k : Nat} (hk : k ≤ s.size) : f k ≤ t.size := h.last ▸ h.mono hk (Nat.le_refl _)
/-- A run of bytes that are no signs. -/
theorem Wide.run (h : Wide s t f) {k : Nat} : ∀ {j : Nat}, k ≤ j → j ≤ s.size → (∀ i, k ≤ i → i < j → sgn (bt s i) = false) → f j = f k + (j - k) := by
  intro j hk hj hs
  induction j with
  | zero => have : k = 0 := by omega
            subst this; omega
  | succ j ih =>
    by_cases e : k = j + 1
    · subst e; omega
    · have h1 := ih (by omega) (by omega) (fun i h2 h3 => hs i h2 (by omega))
      rw [h.step j (by omega) (hs j (by omega) (by omega)), h1]
      omega
theorem sgn_blank {c : Int} (h : blank c = true) : sgn c = false := by
  unfold blank at h
  have : c = 32 := by simpa using h
  subst this; rfl
/-- Where the next word begins. -/
def beg (s : ByteArray) (f : Nat → Nat) (b : Nat) : Nat := if sgn (bt s b) then f b + 1 else f b
theorem blanks (h : Wide s t f) {k k' : Nat} (ha : At s t f k k') (hb : runTo blank s k < s.size) : runTo blank t k' = beg s f (runTo blank s k) ∧ beg s f (runTo blank s k) < t.size := by
  have hg := runTo_ge blank s k
  have hr : f (runTo blank s k) = f k + (runTo blank s k - k) := h.run hg (Nat.le_of_lt hb) (fun i h1 h2 => sgn_blank (runTo_all h1 h2))
  have hat := runTo_at (p := blank) ha.le hb
  have hlt := h.lt hb
  have hle := h.le (k := runTo blank s k + 1) hb
  have hall : ∀ j, k' ≤ j → j < f (runTo blank s k) → blank (bt t j) = true := by
    intro j h1 h2
    by_cases h3 : j < f k
    · rw [ha.gap j h1 h3]; rfl
    · have hi : k + (j - f k) < runTo blank s k := by omega
      have hbi := runTo_all (p := blank) (s := s) (k := k) (j := k + (j - f k)) (by omega) hi
      have hfi : f (k + (j - f k)) = j := by
        rw [h.run (k := k) (j := k + (j - f k)) (by omega) (by omega) (fun i h4 h5 => sgn_blank (runTo_all h4 (by omega)))]
        omega
      have := h.byte (k + (j - f k)) (by omega) (sgn_blank hbi)
      rw [hfi] at this
      rw [this]; exact hbi
  have hto := ha.low
  unfold beg
  cases hs : sgn (bt s (runTo blank s k)) with
  | false =>
    simp only [Bool.false_eq_true, if_false]
    refine ⟨runTo_eq (by omega) (by omega) hall (fun _ => ?_), by omega⟩
    rw [h.byte _ hb hs]; exact hat
  | true =>
    simp only [if_true]
    obtain ⟨h1, h2, _, _⟩ := h.four _ hb hs
    have h4 := h.sign _ hb hs
    refine ⟨runTo_eq (by omega) (by omega) (fun j h5 h6 => ?_) (fun _ => ?_), by omega⟩
    · by_cases e : j < f (runTo blank s k)
      · exact hall j h5 e
      · have : j = f (runTo blank s k) := by omega
        rw [this, h1]; rfl
    · rw [h2]; exact hat
theorem blanks_end (h : Wide s t f) {k k' : Nat} (ha : At s t f k k') (hb : s.size ≤ runTo blank s k) : runTo blank t k' = t.size := by
  have hle := runTo_le (p := blank) ha.le
  have he : runTo blank s k = s.size := by omega
  have hall : ∀ j, k' ≤ j → j < t.size → blank (bt t j) = true := by
    intro j h1 h2
    by_cases h3 : j < f k
    · rw [ha.gap j h1 h3]; rfl
    · have hr : f s.size = f k + (s.size - k) := h.run ha.le (Nat.le_refl _) (fun i h4 h5 => sgn_blank (runTo_all h4 (by omega)))
      have hl := h.last
      have hi : k + (j - f k) < runTo blank s k := by omega
      have hbi := runTo_all (p := blank) (s := s) (k := k) (j := k + (j - f k)) (by omega) hi
      have hfi : f (k + (j - f k)) = j := by
        rw [h.run (k := k) (j := k + (j - f k)) (by omega) (by omega) (fun i h4 h5 => sgn_blank (runTo_all h4 (by omega)))]
        omega
      have := h.byte (k + (j - f k)) (by omega) (sgn_blank hbi)
      rw [hfi] at this
      rw [this]; exact hbi
  have := ha.low
  have := h.le ha.le
  exact runTo_eq (by omega) (Nat.le_refl _) hall (fun h => by omega)
/-- The byte behind one that is no sign. -/
theorem behind (h : Wide s t f) {b : Nat} (hb : b < s.size) (hs : sgn (bt s b) = false) : (bt t (f b + 1) = bt s (b + 1)) ∨ (bt t (f b + 1) = 32 ∧ sgn (bt s (b + 1)) = true) := by
  have h1 := h.step b hb hs
  by_cases hb1 : b + 1 < s.size
  · cases hs1 : sgn (bt s (b + 1)) with
    | false => left; rw [← h1]; exact h.byte _ hb1 hs1
    | true => right; rw [← h1]; exact ⟨(h.four _ hb1 hs1).1, rfl⟩
  · left
    have : b + 1 = s.size := by omega
    rw [bt_out (s := s) (by omega), bt_out (s := t) (by have := h.last; rw [← this, ← h1]; rw [‹b + 1 = s.size›]; exact Nat.le_refl _)]
theorem behind_eq (h : Wide s t f) {b : Nat} (hb : b < s.size) (hs : sgn (bt s b) = false) {c : Int} (hc : sgn c = false) (h32 : c ≠ 32) : (bt t (f b + 1) == c) = (bt s (b + 1) == c) := by
  rcases behind h hb hs with e | ⟨e1, e2⟩
  · rw [e]
  · rw [e1]
    have h1 : ((32 : Int) == c) = false := by simpa using fun e => h32 e.symm
    have h2 : (bt s (b + 1) == c) = false := by
      cases hx : (bt s (b + 1) == c) with
      | false => rfl
      | true =>
        have : bt s (b + 1) = c := by simpa using hx
        rw [this, hc] at e2
        cases e2
    rw [h1, h2]
theorem beg_byte (h : Wide s t f) {b : Nat} (hb : b < s.size) : bt t (beg s f b) = bt s b := by
  unfold beg
  cases hs : sgn (bt s b) with
  | false => simpa using h.byte b hb hs
  | true => simpa using (h.four b hb hs).2.1
theorem sgn_cases {c : Int} (h : sgn c = true) : c = 40 ∨ c = 41 ∨ c = 44 := by
  unfold sgn at h
  simp at h
  rcases h with (h | h) | h
  · exact .inl h
  · exact .inr (.inl h)
  · exact .inr (.inr h)
theorem kind_wide (h : Wide s t f) {b : Nat} (hb : b < s.size) : kindP t (beg s f b) = kindP s b := by
  unfold kindP
  rw [beg_byte h hb]
  cases hs : sgn (bt s b) with
  | false =>
    have hn : (bt t (beg s f b + 1) == 62) = (bt s (b + 1) == 62) := by
      have := behind_eq h hb hs (c := 62) rfl (by decide)
      unfold beg
      rw [hs]
      exact this
    rw [hn]
  | true =>
    rcases sgn_cases hs with e | e | e <;> rw [e] <;> rfl
/-- A tail's bytes are no signs. -/
theorem tail_sgn {a c : Int} (h : okTail a c = true) : sgn c = false := by
  cases hs : sgn c with
  | false => rfl
  | true =>
    rcases sgn_cases hs with rfl | rfl | rfl
    · revert h; unfold okTail; simp [digZ, lowZ, upZ]
    · revert h; unfold okTail; simp [digZ, lowZ, upZ]
    · revert h; unfold okTail; simp [digZ, lowZ, upZ]
theorem tail_blank (a : Int) : okTail a 32 = false := by unfold okTail; simp [digZ, lowZ, upZ]
theorem run_wide (h : Wide s t f) {b : Nat} (hb : b < s.size) (hs : sgn (bt s b) = false) (a : Int) : runTo (okTail a) t (f b + 1) = f (runTo (okTail a) s (b + 1)) ∧ f (runTo (okTail a) s (b + 1)) = f b + (runTo (okTail a) s (b + 1) - b) := by
  have hge := runTo_ge (okTail a) s (b + 1)
  have hle := runTo_le (p := okTail a) (s := s) (k := b + 1) hb
  have hno : ∀ i, b ≤ i → i < runTo (okTail a) s (b + 1) → sgn (bt s i) = false := fun i h1 h2 => by
    by_cases e : i = b
    · rw [e]; exact hs
    · exact tail_sgn (runTo_all (p := okTail a) (k := b + 1) (by omega) h2)
  have hf : f (runTo (okTail a) s (b + 1)) = f b + (runTo (okTail a) s (b + 1) - b) := h.run (by omega) hle hno
  refine ⟨runTo_eq (by omega) (h.le hle) (fun j h1 h2 => ?_) (fun hlt => ?_), hf⟩
  · have hfj : f (b + (j - f b)) = j := by
      rw [h.run (k := b) (j := b + (j - f b)) (by omega) (by omega) (fun i h3 h4 => hno i h3 (by omega))]
      omega
    have hj := h.byte (b + (j - f b)) (by omega) (hno _ (by omega) (by omega))
    rw [hfj] at hj
    rw [hj]
    exact runTo_all (p := okTail a) (k := b + 1) (by omega) (by omega)
  · by_cases he : runTo (okTail a) s (b + 1) < s.size
    · have hat := runTo_at (p := okTail a) (s := s) (k := b + 1) hb he
      cases hse : sgn (bt s (runTo (okTail a) s (b + 1))) with
      | false => rw [h.byte _ he hse]; exact hat
      | true => rw [(h.four _ he hse).1]; exact tail_blank a
    · have : runTo (okTail a) s (b + 1) = s.size := by omega
      rw [this, h.last] at hlt
      omega
theorem kind7 {b : Nat} (h7 : (kindP s b == 7) = true) : bt s b = 45 ∧ bt s (b + 1) = 62 := by
  by_cases h : (bt s b == 45 && bt s (b + 1) == 62) = true
  · simpa using h
  · exfalso
    unfold kindP at h7
    rw [if_neg h] at h7
    revert h7
    repeat' split
    all_goals decide
/-- How long the word is: the same; where it ends: the same place, but for blanks. -/
theorem end_wide (h : Wide s t f) {b : Nat} (hb : b < s.size) : endP t (beg s f b) + b = endP s b + beg s f b ∧ (endP s b ≤ s.size → At s t f (endP s b) (endP t (beg s f b))) := by
  unfold endP
  rw [kind_wide h hb]
  unfold lenK
  rw [beg_byte h hb]
  cases hs : sgn (bt s b) with
  | true =>
    have hk : (kindP s b == 1 || kindP s b == 2) = false ∧ (kindP s b == 7) = false := by
      unfold kindP
      rcases sgn_cases hs with e | e | e <;> rw [e] <;> exact ⟨rfl, rfl⟩
    rw [hk.1, hk.2]
    simp only [Bool.false_eq_true, if_false]
    have h4 := h.sign b hb hs
    obtain ⟨_, _, h6, h7⟩ := h.four b hb hs
    unfold beg
    rw [hs]
    simp only [if_true]
    refine ⟨by omega, fun _ => ⟨hb, by omega, fun j h1 h2 => ?_⟩⟩
    by_cases e : j = f b + 2
    · rw [e]; exact h6
    · have : j = f b + 3 := by omega
      rw [this]; exact h7
  | false =>
    have hbg : beg s f b = f b := by unfold beg; rw [hs]; rfl
    rw [hbg]
    by_cases hk : (kindP s b == 1 || kindP s b == 2) = true
    · rw [if_pos hk, if_pos hk]
      obtain ⟨h1, h2⟩ := run_wide h hb hs (bt s b)
      have hge := runTo_ge (okTail (bt s b)) s (b + 1)
      have hle := runTo_le (p := okTail (bt s b)) (s := s) (k := b + 1) hb
      rw [h1]
      exact ⟨by omega, fun _ => ⟨hle, Nat.le_refl _, fun j h3 h4 => by omega⟩⟩
    · rw [if_neg hk, if_neg hk]
      by_cases h7 : (kindP s b == 7) = true
      · rw [if_pos h7, if_pos h7]
        have hb1 := kind7 h7
        have hb2 : b + 1 < s.size := by
          by_cases e : b + 1 < s.size
          · exact e
          · have := bt_out (s := s) (j := b + 1) (by omega)
            rw [hb1.2] at this
            cases this
        have e1 := h.step b hb hs
        have e2 : f (b + 2) = f (b + 1) + 1 := h.step (b + 1) hb2 (by rw [hb1.2]; rfl)
        exact ⟨by omega, fun _ => ⟨by omega, by omega, fun j h3 h4 => by omega⟩⟩
      · rw [if_neg h7, if_neg h7]
        have e1 := h.step b hb hs
        exact ⟨by omega, fun _ => ⟨hb, by omega, fun j h3 h4 => by omega⟩⟩
theorem err_wide (h : Wide s t f) {b : Nat} (hb : b < s.size) : errP t (beg s f b) = errP s b := by
  have he := (end_wide h hb).1
  have hbad : badP t (beg s f b) = badP s b := by
    unfold badP
    rw [kind_wide h hb, beg_byte h hb]
    cases hs : sgn (bt s b) with
    | true => rcases sgn_cases hs with e | e | e <;> rw [e] <;> rfl
    | false =>
      have hn : (bt t (beg s f b + 1) == 48) = (bt s (b + 1) == 48) := by
        have := behind_eq h hb hs (c := 48) rfl (by decide)
        unfold beg
        rw [hs]
        exact this
      have hm : (endP t (beg s f b) == beg s f b + 1) = (endP s b == b + 1) := by
        by_cases e : endP s b = b + 1
        · have e' : endP t (beg s f b) = beg s f b + 1 := by omega
          rw [e, e']; simp
        · have e' : ¬ endP t (beg s f b) = beg s f b + 1 := by omega
          rw [show (endP t (beg s f b) == beg s f b + 1) = false by simpa using e', show (endP s b == b + 1) = false by simpa using e]
      rw [hn, hm]
  unfold errP
  rw [hbad]
  by_cases hl : b + 12 < endP s b
  · rw [if_pos hl, if_pos (show beg s f b + 12 < endP t (beg s f b) by omega)]
  · rw [if_neg hl, if_neg (show ¬ beg s f b + 12 < endP t (beg s f b) by omega)]
theorem end_le {b : Nat} (hb : b < s.size) : endP s b ≤ s.size := by
  unfold endP lenK
  by_cases hk : (kindP s b == 1 || kindP s b == 2) = true
  · rw [if_pos hk]
    exact runTo_le (p := okTail (bt s b)) hb
  · rw [if_neg hk]
    by_cases h7 : (kindP s b == 7) = true
    · rw [if_pos h7]
      have hb1 := (kind7 h7).2
      by_cases e : b + 1 < s.size
      · omega
      · have := bt_out (s := s) (j := b + 1) (by omega)
        rw [hb1] at this
        cases this
    · rw [if_neg h7]
      omega
theorem bytes_wide (h : Wide s t f) {b : Nat} (hb : b < s.size) {j : Nat} (hj : b + j < endP s b) : bt t (beg s f b + j) = bt s (b + j) := by
  have hle := end_le hb
  cases j with
  | zero => simpa using beg_byte h hb
  | succ j =>
    have hno : ∀ i, b ≤ i → i < endP s b → sgn (bt s i) = false := by
      cases hs : sgn (bt s b) with
      | true =>
        exfalso
        have : endP s b = b + 1 := by
          unfold endP lenK kindP
          rcases sgn_cases hs with e | e | e <;> rw [e] <;> rfl
        omega
      | false =>
        intro i h1 h2
        by_cases e : i = b
        · rw [e]; exact hs
        · unfold endP lenK at h2
          by_cases hk : (kindP s b == 1 || kindP s b == 2) = true
          · rw [if_pos hk] at h2
            exact tail_sgn (runTo_all (p := okTail (bt s b)) (k := b + 1) (by omega) h2)
          · rw [if_neg hk] at h2
            by_cases h7 : (kindP s b == 7) = true
            · rw [if_pos h7] at h2
              have hb1 := (kind7 h7).2
              have : i = b + 1 := by omega
              rw [this, hb1]; rfl
            · rw [if_neg h7] at h2
              omega
    have hf := h.run (k := b) (j := b + (j + 1)) (by omega) (by omega) (fun i h1 h2 => hno i h1 (by omega))
    have hby := h.byte (b + (j + 1)) (by omega) (hno _ (by omega) hj)
    have hbg : beg s f b = f b := by unfold beg; rw [hno b (Nat.le_refl _) (by omega)]; rfl
    rw [hbg, ← hby, hf]
    congr 1
    omega
theorem text_wide (h : Wide s t f) {b : Nat} (hb : b < s.size) : t.extract (beg s f b) (endP t (beg s f b)) = s.extract b (endP s b) := by
  have he := (end_wide h hb).1
  have hl := end_le hb
  have ha := (end_wide h hb).2 hl
  have hl' : endP t (beg s f b) ≤ t.size := Nat.le_trans ha.low (h.le ha.le)
  have hbe : b ≤ endP s b := by
    by_cases e : b ≤ endP s b
    · exact e
    · exfalso
      unfold endP lenK at e
      split at e
      · have := runTo_ge (okTail (bt s b)) s (b + 1); omega
      · split at e <;> omega
  refine ext_bt (by simp; omega) (fun j hj => ?_)
  have hj' : b + j < endP s b := by simp at hj; omega
  rw [bt_ext t _ _ _ hl', bt_ext s _ _ _ hl, if_pos (by omega), if_pos hj']
  exact bytes_wide h hb hj'
/-- The next word is the same. -/
theorem nx_wide (h : Wide s t f) {k k' : Nat} (ha : At s t f k k') : (nx t k').err = (nx s k).err ∧ (nx t k').word.kind = (nx s k).word.kind ∧ (nx t k').word.text = (nx s k).word.text ∧ ((nx s k).err = 0 → At s t f (nx s k).to (nx t k').to) := by
  unfold nx
  by_cases hb : s.size ≤ runTo blank s k
  · have he := blanks_end h ha hb
    have hl := runTo_le (p := blank) ha.le
    rw [if_pos hb, he, if_pos (Nat.le_refl _)]
    refine ⟨rfl, rfl, rfl, fun _ => ?_⟩
    dsimp only
    have hs : runTo blank s k = s.size := by omega
    rw [hs]
    exact ⟨Nat.le_refl _, by rw [h.last]; exact Nat.le_refl _, fun j h1 h2 => by rw [h.last] at h2; omega⟩
  · have hb' : runTo blank s k < s.size := by omega
    obtain ⟨e1, e2⟩ := blanks h ha hb'
    rw [if_neg hb, e1, if_neg (by omega), err_wide h hb']
    by_cases hz : errP s (runTo blank s k) = 0
    · rw [if_pos hz, if_pos hz]
      exact ⟨rfl, kind_wide h hb', text_wide h hb', fun _ => (end_wide h hb').2 (end_le hb')⟩
    · rw [if_neg hz, if_neg hz]
      exact ⟨rfl, rfl, rfl, fun e => absurd e hz⟩
end Go.Proofs.Ytkcbhbkldcebiaa

namespace Go.Proofs.Ytkcbhbkldcebiaa
variable {s t : ByteArray} {f : Nat → Nat}

theorem At.out (h : Wide s t f) {k k' : Nat} (ha : At s t f k k') : k' ≤ t.size := Nat.le_trans ha.low (h.le ha.le)
theorem look_wide (h : Wide s t f) {k k' : Nat} (ha : At s t f k k') : (∃ p q, lookP s k = .error p ∧ lookP t k' = .error q ∧ p.1 = q.1) ∨ (∃ r r', lookP s k = .ok r ∧ lookP t k' = .ok r' ∧ r'.word.kind = r.word.kind ∧ r'.word.text = r.word.text ∧ At s t f r.to r'.to) := by
  obtain ⟨h1, h2, h3, h4⟩ := nx_wide h ha
  unfold lookP
  by_cases he : (nx s k).err = 0
  · rw [if_pos he, if_pos (h1.trans he)]
    exact .inr ⟨_, _, rfl, rfl, h2, h3, h4 he⟩
  · rw [if_neg he, if_neg (fun e => he (h1.symm.trans e))]
    exact .inl ⟨_, _, rfl, rfl, h1.symm⟩
theorem next_wide (h : Wide s t f) {k k' : Nat} (ha : At s t f k k') : (∃ p q, nextP s k = .error p ∧ nextP t k' = .error q ∧ p.1 = q.1) ∨ (∃ r r', nextP s k = .ok r ∧ nextP t k' = .ok r' ∧ r'.word.kind = r.word.kind ∧ r'.word.text = r.word.text ∧ At s t f r.to r'.to) := by
  unfold nextP
  rcases look_wide h ha with ⟨p, q, h1, h2, h3⟩ | ⟨r, r', h1, h2, h3, h4, h5⟩
  · rw [h1, h2]; exact .inl ⟨p, q, rfl, rfl, h3⟩
  · rw [h1, h2]
    dsimp only
    rw [h3]
    by_cases h0 : r.word.kind = 0
    · rw [if_pos h0, if_pos h0]; exact .inl ⟨_, _, rfl, rfl, rfl⟩
    · rw [if_neg h0, if_neg h0]; exact .inr ⟨r, r', rfl, rfl, h3, h4, h5⟩
theorem want_wide (h : Wide s t f) {k k' : Nat} (ha : At s t f k k') (kd : Int) : (∃ p q, wantP s k kd = .error p ∧ wantP t k' kd = .error q ∧ p.1 = q.1) ∨ (∃ r r', wantP s k kd = .ok r ∧ wantP t k' kd = .ok r' ∧ At s t f r.to r'.to) := by
  unfold wantP
  rcases next_wide h ha with ⟨p, q, h1, h2, h3⟩ | ⟨r, r', h1, h2, h3, h4, h5⟩
  · rw [h1, h2]; exact .inl ⟨p, q, rfl, rfl, h3⟩
  · rw [h1, h2]
    dsimp only
    rw [h3]
    by_cases h0 : r.word.kind = kd
    · rw [if_pos h0, if_pos h0]; exact .inr ⟨r, r', rfl, rfl, h5⟩
    · rw [if_neg h0, if_neg h0]; exact .inl ⟨_, _, rfl, rfl, rfl⟩
theorem pass_wide (h : Wide s t f) {k k' : Nat} (ha : At s t f k k') (kd : Int) : (∃ p q, passP s k kd = .error p ∧ passP t k' kd = .error q ∧ p.1 = q.1) ∨ (∃ b k1 k1', passP s k kd = .ok (b, k1) ∧ passP t k' kd = .ok (b, k1') ∧ At s t f k1 k1') := by
  unfold passP
  rcases look_wide h ha with ⟨p, q, h1, h2, h3⟩ | ⟨r, r', h1, h2, h3, h4, h5⟩
  · rw [h1, h2]; exact .inl ⟨p, q, rfl, rfl, h3⟩
  · rw [h1, h2]
    dsimp only
    rw [h3]
    by_cases h0 : r.word.kind = kd
    · rw [if_pos h0, if_pos h0]; exact .inr ⟨true, _, _, rfl, rfl, h5⟩
    · rw [if_neg h0, if_neg h0]; exact .inr ⟨false, _, _, rfl, rfl, ha⟩
theorem endR_wide (h : Wide s t f) {k k' : Nat} (ha : At s t f k k') : (∃ p q, endR s k = .error p ∧ endR t k' = .error q ∧ p.1 = q.1) ∨ (∃ r r', endR s k = .ok r ∧ endR t k' = .ok r') := by
  unfold endR
  rcases look_wide h ha with ⟨p, q, h1, h2, h3⟩ | ⟨r, r', h1, h2, h3, h4, h5⟩
  · rw [h1, h2]; exact .inl ⟨p, q, rfl, rfl, h3⟩
  · rw [h1, h2]
    dsimp only
    rw [h3]
    by_cases h0 : r.word.kind = 0
    · rw [if_pos h0, if_pos h0]; exact .inr ⟨r, r', rfl, rfl⟩
    · rw [if_neg h0, if_neg h0]; exact .inl ⟨_, _, rfl, rfl, rfl⟩
/-- The same is read, up to places. -/
def Sim (s t : ByteArray) (f : Nat → Nat) (a b : Except (Int × Nat) (Fo × Nat)) : Prop := (∃ p q, a = .error p ∧ b = .error q ∧ p.1 = q.1) ∨ (∃ F k k', a = .ok (F, k) ∧ b = .ok (F, k') ∧ At s t f k k')
theorem rd_wide (h : Wide s t f) (l : List Sym) : ∀ (z : Nat) (m : Bool) (k k' : Nat), s.size - k ≤ z → At s t f k k' → Sim s t f (rdC s l m k) (rdC t l m k') := by
  intro z
  induction z using Nat.strongRecOn with
  | _ z ih =>
  intro m k k' hz ha
  rw [rdC_eq ha.le, rdC_eq (ha.out h)]
  have two : ∀ (k1 k1' : Nat) (g : ByteArray × Int → Fo → Fo → Fo), k < k1 → At s t f k1 k1' →
      Sim s t f (match rdC s l false k1 with | .error e => .error e | .ok (.nil, _) => .error (0, 0) | .ok (.node _ _ x m _, k2) => match rdC s l true k2 with | .error e => .error e | .ok (F, k3) => .ok (g x m F, k3)) (match rdC t l false k1' with | .error e => .error e | .ok (.nil, _) => .error (0, 0) | .ok (.node _ _ x m _, k2) => match rdC t l true k2 with | .error e => .error e | .ok (F, k3) => .ok (g x m F, k3)) := by
    intro k1 k1' g hk1 ha1
    have h1le := ha1.le
    rcases ih (s.size - k1) (by omega) false k1 k1' (Nat.le_refl _) ha1 with ⟨p, q, e1, e2, e3⟩ | ⟨F, k2, k2', e1, e2, ha2⟩
    · rw [e1, e2]; exact .inl ⟨p, q, rfl, rfl, e3⟩
    · have hto := rdC_to ha1.le e1
      rw [e1, e2]
      cases F with
      | nil => exact .inl ⟨_, _, rfl, rfl, rfl⟩
      | node b o x m r =>
        dsimp only
        rcases ih (s.size - k2) (by omega) true k2 k2' (Nat.le_refl _) ha2 with ⟨p, q, e4, e5, e6⟩ | ⟨F, k3, k3', e4, e5, ha3⟩
        · rw [e4, e5]; exact .inl ⟨p, q, rfl, rfl, e6⟩
        · rw [e4, e5]; exact .inr ⟨_, k3, k3', rfl, rfl, ha3⟩
  cases m with
  | false =>
    unfold rd1
    dsimp only
    rcases next_wide h ha with ⟨p, q, e1, e2, e3⟩ | ⟨r, r', e1, e2, e3, e4, ha1⟩
    · rw [e1, e2]; exact .inl ⟨p, q, rfl, rfl, e3⟩
    · have hr := next_ok ha.le e1
      rw [e1, e2]
      dsimp only
      rw [e3, e4]
      by_cases h2 : r.word.kind = 2
      · rw [if_pos h2, if_pos h2]; exact .inr ⟨_, _, _, rfl, rfl, ha1⟩
      · rw [if_neg h2, if_neg h2]
        by_cases h1 : r.word.kind = 1
        · rw [if_pos h1, if_pos h1]
          by_cases hf : findB l r.word.text = true
          · rw [if_pos hf, if_pos hf]
            rcases pass_wide h ha1 3 with ⟨p, q, e5, e6, e7⟩ | ⟨b, k1, k1', e5, e6, ha2⟩
            · rw [e5, e6]; exact .inl ⟨p, q, rfl, rfl, e7⟩
            · rw [e5, e6]
              cases b with
              | false => exact .inr ⟨_, _, _, rfl, rfl, ha2⟩
              | true =>
                have hp := pass_true ha1.le (by decide) e5
                exact two k1 k1' (fun x m F => .node 0 0 (⟨#[]⟩, findI l r.word.text) (.node 0 0 x m F) .nil) (by omega) ha2
          · rw [if_neg hf, if_neg hf]; exact .inl ⟨_, _, rfl, rfl, rfl⟩
        · rw [if_neg h1, if_neg h1]; exact .inl ⟨_, _, rfl, rfl, rfl⟩
  | true =>
    unfold rd1
    dsimp only
    rcases pass_wide h ha 5 with ⟨p, q, e5, e6, e7⟩ | ⟨b, k1, k1', e5, e6, ha2⟩
    · rw [e5, e6]; exact .inl ⟨p, q, rfl, rfl, e7⟩
    · rw [e5, e6]
      cases b with
      | true =>
        have hp := pass_true ha.le (by decide) e5
        exact two k1 k1' (fun x m F => .node 0 0 x m F) (by omega) ha2
      | false =>
        dsimp only
        rcases want_wide h ha 4 with ⟨p, q, e1, e2, e3⟩ | ⟨r, r', e1, e2, ha3⟩
        · rw [e1, e2]; exact .inl ⟨p, q, rfl, rfl, e3⟩
        · rw [e1, e2]; exact .inr ⟨_, _, _, rfl, rfl, ha3⟩
/-- Term of the one text and of the other: the same, up to places. -/
theorem full_wide (h : Wide s t f) (h0 : f 0 = 0) (hs : t.size ≤ 800) (l : List Sym) : (∃ p q, fullR s l = .error p ∧ fullR t l = .error q ∧ p.1 = q.1) ∨ (∃ x, fullR s l = .ok x ∧ fullR t l = .ok x) := by
  have hle : s.size ≤ t.size := by
    have hk : ∀ k, k ≤ s.size → k ≤ f k := by
      intro k
      induction k with
      | zero => intro _; omega
      | succ k ih => intro hk; have := ih (by omega); have := h.lt (k := k) (by omega); omega
    have := hk s.size (Nat.le_refl _)
    rw [h.last] at this
    exact this
  have ha : At s t f 0 0 := ⟨Nat.zero_le _, Nat.zero_le _, fun j h1 h2 => by omega⟩
  unfold fullR termR
  rw [if_neg (by omega), if_neg (by omega)]
  have hsim := rd_wide h l s.size false 0 0 (Nat.sub_le _ _) ha
  change Sim s t f (rdF s l (s.size + 1) false 0) (rdF t l (t.size + 1) false 0) at hsim
  rcases hsim with ⟨p, q, e1, e2, e3⟩ | ⟨F, k, k', e1, e2, hk⟩
  · rw [e1, e2]; exact .inl ⟨p, q, rfl, rfl, e3⟩
  · rw [e1, e2]
    cases F with
    | nil => exact .inl ⟨_, _, rfl, rfl, rfl⟩
    | node b o x m r =>
      dsimp only
      rcases endR_wide h hk with ⟨p, q, e4, e5, e6⟩ | ⟨r, r', e4, e5⟩
      · rw [e4, e5]; exact .inl ⟨p, q, rfl, rfl, e6⟩
      · rw [e4, e5]
        dsimp only
        by_cases hc : chk l x m = 0
        · rw [if_pos hc]; exact .inr ⟨_, rfl, rfl⟩
        · rw [if_neg hc]; exact .inl ⟨_, _, rfl, rfl, rfl⟩
end Go.Proofs.Ytkcbhbkldcebiaa

namespace Go.Proofs.Ytkcbhbkldcebiaa
open Go.RowKit Go.Deep

/-- The first i bytes, with blanks around signs. -/
def widB (s : ByteArray) : Nat → ByteArray
  | 0 => ⟨#[]⟩
  | i + 1 => if sgn (bt s i) then ((widB s i ++ (⟨#[32]⟩ : ByteArray)) ++ s.extract i (i + 1)) ++ (⟨#[32, 32]⟩ : ByteArray) else widB s i ++ s.extract i (i + 1)

theorem bt_left {a b : ByteArray} {j : Nat} (h : j < a.size) : bt (a ++ b) j = bt a j := by
  rw [bt_of (s := a ++ b) (j := j) (by rw [ByteArray.size_append]; omega), bt_of h, ByteArray.getElem_append_left h]
theorem bt_right {a b : ByteArray} {j : Nat} (h : j < b.size) : bt (a ++ b) (a.size + j) = bt b j := by
  rw [bt_of (s := a ++ b) (j := a.size + j) (by rw [ByteArray.size_append]; omega), bt_of h, ByteArray.getElem_append_right (by omega)]
  congr 3
  omega
theorem ext_one {s : ByteArray} {i : Nat} (hi : i < s.size) : (s.extract i (i + 1)).size = 1 ∧ bt (s.extract i (i + 1)) 0 = bt s i := by
  refine ⟨by simp; omega, ?_⟩
  rw [bt_ext s i (i + 1) 0 (by omega), if_pos (by omega)]
  rfl
theorem wid_sign {s : ByteArray} {i : Nat} (h : sgn (bt s i) = true) : widB s (i + 1) = ((widB s i ++ (⟨#[32]⟩ : ByteArray)) ++ s.extract i (i + 1)) ++ (⟨#[32, 32]⟩ : ByteArray) := by
  show (if sgn (bt s i) then _ else _) = _
  rw [h]; rfl
theorem wid_none {s : ByteArray} {i : Nat} (h : sgn (bt s i) = false) : widB s (i + 1) = widB s i ++ s.extract i (i + 1) := by
  show (if sgn (bt s i) then _ else _) = _
  rw [h]; rfl
theorem wid_size {s : ByteArray} {i : Nat} (hi : i < s.size) : (widB s (i + 1)).size = (widB s i).size + (if sgn (bt s i) then 4 else 1) := by
  have h1 := (ext_one hi).1
  show (if sgn (bt s i) then ((widB s i ++ (⟨#[32]⟩ : ByteArray)) ++ s.extract i (i + 1)) ++ (⟨#[32, 32]⟩ : ByteArray) else widB s i ++ s.extract i (i + 1)).size = _
  cases hs : sgn (bt s i) with
  | true =>
    simp only [if_true, ByteArray.size_append, h1]
    show _ + 1 + 1 + 2 = _
    omega
  | false =>
    simp only [Bool.false_eq_true, if_false, ByteArray.size_append, h1]
theorem wid_le {s : ByteArray} : ∀ {i : Nat}, i ≤ s.size → (widB s i).size ≤ 4 * i
  | 0, _ => Nat.le_refl _
  | i + 1, h => by
    have h1 := wid_le (s := s) (i := i) (by omega)
    rw [wid_size (by omega)]
    split <;> omega
/-- What was laid stays. -/
theorem wid_pre {s : ByteArray} : ∀ (d i : Nat), i + d = s.size → ∀ j, j < (widB s i).size → bt (widB s s.size) j = bt (widB s i) j
  | 0, i, h, j, _ => by rw [← h]; rfl
  | d + 1, i, h, j, hj => by
    have hi : i < s.size := by omega
    have hz := wid_size hi
    rw [wid_pre d (i + 1) (by omega) j (by rw [hz]; omega)]
    show bt (if sgn (bt s i) then _ else _) j = _
    cases hs : sgn (bt s i) with
    | true =>
      simp only [if_true]
      rw [bt_left (by simp only [ByteArray.size_append]; omega), bt_left (by simp only [ByteArray.size_append]; omega), bt_left hj]
    | false =>
      simp only [Bool.false_eq_true, if_false]
      rw [bt_left hj]
theorem wid_wide (s : ByteArray) : Wide s (widB s s.size) (fun i => (widB s i).size) where
  last := rfl
  step := fun k hk hs => by
    show (widB s (k + 1)).size = _
    rw [wid_size hk, hs]; rfl
  sign := fun k hk hs => by
    show (widB s (k + 1)).size = _
    rw [wid_size hk, hs]; rfl
  byte := fun k hk hs => by
    have hz := wid_size hk
    rw [hs] at hz
    show bt (widB s s.size) (widB s k).size = _
    rw [wid_pre (s.size - (k + 1)) (k + 1) (by omega) _ (by rw [hz]; exact Nat.lt_succ_self _)]
    show bt (if sgn (bt s k) then _ else _) _ = _
    rw [hs]
    simp only [Bool.false_eq_true, if_false]
    obtain ⟨h1, h2⟩ := ext_one hk
    have hr : bt (widB s k ++ s.extract k (k + 1)) (widB s k).size = bt (s.extract k (k + 1)) 0 := bt_right (a := widB s k) (b := s.extract k (k + 1)) (j := 0) (by omega)
    rw [hr, h2]
  four := fun k hk hs => by
    have hz := wid_size hk
    rw [hs] at hz
    obtain ⟨h1, h2⟩ := ext_one hk
    have hx : widB s (k + 1) = ((widB s k ++ (⟨#[32]⟩ : ByteArray)) ++ s.extract k (k + 1)) ++ (⟨#[32, 32]⟩ : ByteArray) := by
      show (if sgn (bt s k) then _ else _) = _
      rw [hs]; rfl
    have z1 : (widB s k ++ (⟨#[32]⟩ : ByteArray)).size = (widB s k).size + 1 := by rw [ByteArray.size_append]; rfl
    have z2 : ((widB s k ++ (⟨#[32]⟩ : ByteArray)) ++ s.extract k (k + 1)).size = (widB s k).size + 2 := by rw [ByteArray.size_append, z1, h1]
    have hz4 : (widB s (k + 1)).size = (widB s k).size + 4 := hz
    have pre : ∀ d, d < 4 → bt (widB s s.size) ((widB s k).size + d) = bt (widB s (k + 1)) ((widB s k).size + d) := fun d hd => wid_pre (s.size - (k + 1)) (k + 1) (by omega) _ (by rw [hz4]; omega)
    have p0 := pre 0 (by decide); have p1 := pre 1 (by decide); have p2 := pre 2 (by decide); have p3 := pre 3 (by decide)
    have a0 : bt (widB s (k + 1)) ((widB s k).size + 0) = 32 := by
      rw [hx, bt_left (by rw [z2]; omega), bt_left (by rw [z1]; omega)]
      exact bt_right (a := widB s k) (b := ⟨#[32]⟩) (j := 0) (by decide)
    have a1 : bt (widB s (k + 1)) ((widB s k).size + 1) = bt s k := by
      rw [hx, bt_left (by rw [z2]; omega)]
      have := bt_right (a := widB s k ++ (⟨#[32]⟩ : ByteArray)) (b := s.extract k (k + 1)) (j := 0) (by omega)
      rw [z1, Nat.add_zero] at this
      rw [this, h2]
    have a2 : bt (widB s (k + 1)) ((widB s k).size + 2) = 32 := by
      rw [hx]
      have := bt_right (a := (widB s k ++ (⟨#[32]⟩ : ByteArray)) ++ s.extract k (k + 1)) (b := ⟨#[32, 32]⟩) (j := 0) (by decide)
      rw [z2, Nat.add_zero] at this
      rw [this]; rfl
    have a3 : bt (widB s (k + 1)) ((widB s k).size + 3) = 32 := by
      rw [hx]
      have := bt_right (a := (widB s k ++ (⟨#[32]⟩ : ByteArray)) ++ s.extract k (k + 1)) (b := ⟨#[32, 32]⟩) (j := 1) (by decide)
      rw [z2] at this
      rw [show (widB s k).size + 3 = (widB s k).size + 2 + 1 from rfl, this]; rfl
    exact ⟨p0.trans a0, p1.trans a1, p2.trans a2, p3.trans a3⟩
set_option maxRecDepth 100000 in
set_option maxHeartbeats 4000000 in
theorem textBlanks_walk (S : Option Addr) (n cap : Nat) (l : List Sym) (s : ByteArray) (w : World) (hS : SigAt w S n l) (hs : s.size ≤ 140737488355328) :
    Calls Try.prog 8 #[.slice S n cap, .string s] w fun e w' => e = .returned (.bool true) ∧ Below w.heap.size w w' := by
  have HS := hid hS
  clear hS
  go_enter Try.func8, Try.ntmps8
  go_wp2_with fail
  refine (head_any w).mono ?_
  rintro e w1 ⟨rfl, hb1⟩
  have L1 := hid hb1
  clear hb1
  go_wp2_with fail
  go_loopw [6, 7, 8] (fun wv ov _ wr => ∃ i : Nat, ov = .int .i64 i ∧ i ≤ s.size ∧ wv = .string (widB s i) ∧ wr = w1) (fun _ ov _ _ => s.size - (intOf ov).toNat)
  case atStart => exact ⟨0, rfl, Nat.zero_le _, rfl, rfl⟩
  case round =>
    obtain ⟨i, rfl, hi, rfl, rfl⟩ := hrel
    by_cases hlt : i < s.size
    · have hsz : (widB s i).size ≤ 4 * i := wid_le hi
      have hbt := bt_of hlt
      go_wp2
      all_goals
        refine ⟨⟨i + 1, by simp, by omega, ?_, trivial⟩, by simp [intOf]; omega⟩
        cases hsg : sgn (bt s i) with
        | true =>
          first
            | (rw [wid_sign hsg]; done)
            | (exfalso; rw [hbt] at hsg; unfold sgn at hsg; simp_all; done)
        | false =>
          first
            | (rw [wid_none hsg]; done)
            | (exfalso; rw [hbt] at hsg; unfold sgn at hsg; simp_all; done)
    · have hil : i = s.size := by omega
      subst hil
      have hsz : (widB s s.size).size ≤ 4 * s.size := wid_le (Nat.le_refl _)
      by_cases h8 : 800 < (widB s s.size).size
      · have h8' : (800 : Int) < ((widB s s.size).size : Int) := by omega
        go_wp2
        go_ret
        exact ⟨rfl, L1.out⟩
      · have h8' : ¬ (800 : Int) < ((widB s s.size).size : Int) := by omega
        obtain ⟨t, ht⟩ : ∃ t, widB s s.size = t := ⟨_, rfl⟩
        have hw := full_wide (wid_wide s) rfl (by omega) l
        rw [ht] at hw h8'
        obtain ⟨x, m, er, p, q, hv, hu⟩ : ∃ (x : ByteArray × Int) (m : Fo) (er : Int) (p q : Nat), resV (fullR s l) = ((x, m), er, p) ∧ resV (fullR t l) = ((x, m), er, q) := by
          rcases hw with ⟨p, q, e1, e2, e3⟩ | ⟨y, e1, e2⟩
          · rw [e1, e2]; exact ⟨_, _, _, _, _, rfl, by unfold resV; rw [e3]⟩
          · rw [e1, e2]; exact ⟨_, _, _, _, _, rfl, rfl⟩
        have HT : Hid (∀ W, Below w.heap.size w W → Calls Try.prog 10 #[.slice S n cap, .string s] W fun e w' => TupEnd W x m er p e w') := hid fun W hW => (term_any S n cap l s W (HS.out.below hW)).mono (fun _ _ h => tup_of h hv)
        have HD : Hid (∀ W, Below w.heap.size w W → Calls Try.prog 10 #[.slice S n cap, .string t] W fun e w' => TupEnd W x m er q e w') := hid fun W hW => (term_any S n cap l t W (HS.out.below hW)).mono (fun _ _ h => tup_of h hu)
        rw [ht]
        clear hw hv hu ht h8 hsz
        go_wp2_with fail
        refine (HT.out _ L1.out).mono ?_
        rintro e w2 ⟨ta, tc, rfl, ht2, hb2⟩
        have B2 := alloc_below0 w2 (.cells #[.string x.1, .int .i64 x.2, .slice ta (lenF m) tc] 28)
        have X2 : Hid (XBox (w2.alloc (.cells #[.string x.1, .int .i64 x.2, .slice ta (lenF m) tc] 28)) w2.heap.size x (.slice ta (lenF m) tc)) := World.alloc_heap_new w2 _
        have T2 := hid (ht2.below B2)
        have L2 : Hid (Below w.heap.size w (w2.alloc (.cells #[.string x.1, .int .i64 x.2, .slice ta (lenF m) tc] 28))) := hid ((L1.out.trans (hb2.mono L1.out.size)).alloc (L1.out.trans (hb2.mono L1.out.size)).size _)
        clear ht2 hb2 B2
        go_wp2_with fail
        generalize w2.alloc (.cells #[.string x.1, .int .i64 x.2, .slice ta (lenF m) tc] 28) = V2 at X2 T2 L2 ⊢
        refine (HD.out V2 L2.out).mono ?_
        rintro e w3 ⟨ua, uc, rfl, ht3, hb3⟩
        have B3 := alloc_below0 w3 (.cells #[.string x.1, .int .i64 x.2, .slice ua (lenF m) uc] 28)
        have X3 := ((X2.out.below hb3).below B3)
        have Y3 : XBox (w3.alloc (.cells #[.string x.1, .int .i64 x.2, .slice ua (lenF m) uc] 28)) w3.heap.size x (.slice ua (lenF m) uc) := World.alloc_heap_new w3 _
        have T3 := hid ((T2.out.below hb3).below B3)
        have U3 := hid (ht3.below B3)
        have L3 : Hid (Below w.heap.size w (w3.alloc (.cells #[.string x.1, .int .i64 x.2, .slice ua (lenF m) uc] 28))) := hid ((L2.out.trans (hb3.mono L2.out.size)).alloc (L2.out.trans (hb3.mono L2.out.size)).size _)
        have x0 := X3.c0; have x1 := X3.c1; have x2 := X3.c2
        have y0 := Y3.c0; have y1 := Y3.c1; have y2 := Y3.c2
        clear ht3 hb3 B3 X3 Y3 X2 T2 L2
        go_wp2_with fail
        generalize w3.alloc (.cells #[.string x.1, .int .i64 x.2, .slice ua (lenF m) uc] 28) = V3 at T3 U3 L3 x0 x1 x2 y0 y1 y2 ⊢
        refine (exact_any x m ta ua tc uc V3 T3.out U3.out).mono ?_
        rintro e w4 ⟨rfl, hb4⟩
        have L4 := hid (L3.out.trans (hb4.mono L3.out.size))
        clear hb4 x0 x1 x2 y0 y1 y2
        go_wp2
        go_ret
        exact ⟨rfl, L4.out⟩
end Go.Proofs.Ytkcbhbkldcebiaa

namespace Go.Proofs.Ytkcbhbkldcebiaa
open Go.ChangeShapes Go.WideShapes Go.ChangeAt Go.RowKit Go.Deep
open Go.ChangeMaps (open_string shut_string)

set_option maxRecDepth 100000 in
theorem textBlanks_lifted (os : Os) (started : os.Started) (H : Type) (enc : TypeId × Value → H) :
    ReturnsInHanded {} Try.checked os 8 .any (Rows.textBlanksSpec.pre6 enc Try.prog Try.f8 Rows.textBlanksRow.domain false) (Rows.textBlanksSpec.post enc Try.prog Try.f8 false true false false) := by
  refine returnsInHanded_of_change_sized (C := Try.checked) own started (by kernel_rfl) Try.func8
    (ChangeSpec.witness6 (enc := enc) (C := Try.checked) false ⟨#[], #[.slice none 0 0, .string .empty], []⟩ 8 (by kernel_rfl) (by kernel_rfl) (by kernel_rfl) (by kernel_rfl)) ?_
  intro W base args ds gs before hval0 hW hcnd hsz0 _
  have hval : ∀ (j : Nat) t v, Try.f8.params[j]? = some t → args[j]? = some v → Value.okWide Try.prog W .any base t v := hval0
  have hW' := hW
  obtain ⟨p, q, hA0, hV, rfl, hfz, hnd⟩ := hW
  have hA : DataW.TrodAll enc Try.prog W 0 (fun _ => true) true Try.f8.params.toList args.toList ds p := hA0
  rw [Try.params8] at hA hval
  obtain ⟨v0, vs0, d0, ds0, p0, q0, hargs, rfl, rfl, h0, r0⟩ := trodAll_cons hA
  obtain ⟨v1, vs1, d1, ds1, p1, q1, rfl, rfl, rfl, h1, r1⟩ := trodAll_cons r0
  obtain ⟨rfl, rfl, rfl⟩ := trodAll_nil r1
  obtain rfl : args = #[v0, v1] := by cases args; simp_all
  obtain ⟨rfl, rfl⟩ := trodVars_none hV
  have lt0 : ∀ x ∈ p0, x.block < W.heap.size := by obtain ⟨m, hm⟩ := h0; exact DataW.trod_lt m _ _ _ hm
  obtain ⟨a0, len0, cap0, rfl⟩ := okWide_slice Try.underlying23 (hval 0 23 v0 rfl rfl)
  obtain ⟨l, hl, _, _⟩ := sig_open h0
  obtain ⟨s, rfl, rfl, rfl, hmax⟩ := open_string Try.underlying9 (hval 1 9 v1 rfl rfl) h1
  have hsize : s.size ≤ 140737488355328 := by
    have h := sized_string (j := 1) hsz0 (by rw [Try.params8]; rfl) rfl
    have e : s.data.toList.length = s.size := rfl
    have e2 := reachBytes_lt
    omega
  clear hA0 hval0 hsz0
  simp only [List.append_nil] at hW'
  refine (textBlanks_walk a0 len0 cap0 l s W hl hsize).mono fun e W' ⟨he, bel⟩ => ?_
  subst he
  exact ⟨_, rfl, _, _, _, [], _, [], hW', trodAll_mk1 (shut_bool Try.underlying4 _), trodAll_cons_mk (Below.trod laidOut (by kernel_rfl) (of_decide_eq_true (by kernel_rfl)) h0 bel lt0) (trodAll_cons_mk (shut_string Try.underlying9 hmax) trodAll_mk0), rfl, bel.frame _, fun h => by cases h⟩

theorem textBlanks_holds : Rows.TextBlanksSaid :=
  OpenClaim.holds_of_wide 8 Try.f8 rfl rfl rfl rfl rfl rfl rfl ⟨rfl, rfl, rfl, rfl, rfl⟩ rfl rfl rfl rfl rfl (by kernel_rfl) Try.func8 (by kernel_rfl)
    (of_decide_eq_true (by kernel_rfl)) (by unfold Func.isWrapper; first | (rw [if_pos (by decide +kernel)]; kernel_rfl) | (rw [if_neg (by decide +kernel)]; exact ⟨rfl, rfl⟩))
    (fun os started H enc _ => textBlanks_lifted os started H enc)
end Go.Proofs.Ytkcbhbkldcebiaa
