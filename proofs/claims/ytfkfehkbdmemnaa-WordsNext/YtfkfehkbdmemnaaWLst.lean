/- All words of a text, and the first error and its place, without any program. -/
import Derived.Test.YtfkfehkbdmemnaaWFault
namespace Go.Proofs.Ytfkfehkbdmemnaa

/-- Is there no further word? -/
def nxStop (r : Nx) : Bool := r.err != 0 || r.word.kind == 0
def lstN (s : ByteArray) : Nat → Nat → List Wd × Nat × Int
  | 0, k => ([], k, 0)
  | f + 1, k => if nxStop (nx s k) then ([], (nx s k).to, (nx s k).err) else ((nx s k).word :: (lstN s f (nx s k).to).1, (lstN s f (nx s k).to).2)
theorem lstN_succ (s : ByteArray) (f k : Nat) : lstN s (f + 1) k = if nxStop (nx s k) then ([], (nx s k).to, (nx s k).err) else ((nx s k).word :: (lstN s f (nx s k).to).1, (lstN s f (nx s k).to).2) := rfl
def lst (s : ByteArray) (k : Nat) : List Wd × Nat × Int := lstN s (s.size + 1 - k) k
def wordsFrom (s : ByteArray) (k : Nat) : List Wd := (lst s k).1
def errTo (s : ByteArray) : Nat := (lst s 0).2.1
def errOf (s : ByteArray) : Int := (lst s 0).2.2

/-- What a further word is. -/
structure IsWord (s : ByteArray) (k : Nat) (x : Wd) (z : Nat) : Prop where
  place : x.place = runTo blank s k
  lt : x.place < s.size
  kind : x.kind = kindP s x.place
  kind0 : x.kind ≠ 0
  text : x.text = s.extract x.place (endP s x.place)
  ends : z = endP s x.place
  ok : errP s x.place = 0
  from' : k ≤ x.place
  gt : x.place < z
  le : z ≤ s.size
  size : x.place + x.text.size = z
  short : z ≤ x.place + 12
theorem errP_long {s : ByteArray} {b : Nat} (h : errP s b = 0) : endP s b ≤ b + 12 := by
  unfold errP at h
  split at h
  · omega
  · split at h <;> omega
theorem nx_word {s : ByteArray} {k : Nat} (h : nxStop (nx s k) = false) : IsWord s k (nx s k).word (nx s k).to ∧ (nx s k).err = 0 := by
  unfold nx at h ⊢
  split at h
  · simp [nxStop, noWd] at h
  · rename_i h1
    have h1' : runTo blank s k < s.size := by omega
    split at h
    · rename_i h2
      rw [if_neg h1, if_pos h2]
      have hg := endP_gt s (runTo blank s k)
      have hl := endP_le h1'
      exact ⟨⟨rfl, h1', rfl, errP_kind h2, rfl, rfl, h2, runTo_ge _ _ _, hg, hl, by simp; omega, errP_long h2⟩, rfl⟩
    · rename_i h2
      simp [nxStop, h2] at h
theorem nx_stop {s : ByteArray} {k : Nat} (h : nxStop (nx s k) = true) : (nx s k).word = noWd := by
  unfold nx at h ⊢
  split at h
  · rename_i h1; rw [if_pos h1]
  · rename_i h1
    split at h
    · rename_i h2
      have := errP_kind h2
      simp [nxStop, this] at h
    · rename_i h2
      rw [if_neg h1, if_neg h2]

theorem lstN_fuel (s : ByteArray) : ∀ f g k, k ≤ s.size → s.size + 1 - k ≤ f → s.size + 1 - k ≤ g → lstN s f k = lstN s g k
  | 0, g, k, hk, hf, _ => by omega
  | f + 1, 0, k, hk, _, hg => by omega
  | f + 1, g + 1, k, hk, hf, hg => by
    unfold lstN
    cases h : nxStop (nx s k)
    · have hw := (nx_word h).1
      have h1 := hw.gt
      have h2 := hw.from'
      rw [lstN_fuel s f g (nx s k).to hw.le (by omega) (by omega)]
    · rfl
theorem lst_stop {s : ByteArray} {k : Nat} (hk : k ≤ s.size) (h : nxStop (nx s k) = true) : lst s k = ([], (nx s k).to, (nx s k).err) := by
  unfold lst
  rw [show s.size + 1 - k = (s.size - k) + 1 by omega]
  unfold lstN
  rw [h]; rfl
theorem lst_go {s : ByteArray} {k : Nat} (hk : k ≤ s.size) (h : nxStop (nx s k) = false) : lst s k = ((nx s k).word :: (lst s (nx s k).to).1, (lst s (nx s k).to).2) := by
  have hw := (nx_word h).1
  have h1 := hw.gt
  have h2 := hw.from'
  have h3 := hw.le
  unfold lst
  rw [show s.size + 1 - k = (s.size - k) + 1 by omega]
  rw [lstN_succ, h]
  rw [lstN_fuel s (s.size - k) (s.size + 1 - (nx s k).to) (nx s k).to h3 (by omega) (by omega)]
  rfl
theorem words_stop {s : ByteArray} {k : Nat} (hk : k ≤ s.size) (h : nxStop (nx s k) = true) : wordsFrom s k = [] := by
  unfold wordsFrom; rw [lst_stop hk h]
theorem words_go {s : ByteArray} {k : Nat} (hk : k ≤ s.size) (h : nxStop (nx s k) = false) : wordsFrom s k = (nx s k).word :: wordsFrom s (nx s k).to := by
  unfold wordsFrom; rw [lst_go hk h]
theorem words_len (s : ByteArray) : ∀ n k, k ≤ s.size → s.size - k ≤ n → (wordsFrom s k).length ≤ s.size - k := by
  intro n
  induction n with
  | zero =>
    intro k hk hn
    cases h : nxStop (nx s k)
    · have hw := (nx_word h).1
      have h1 := hw.gt; have h2 := hw.from'; have h3 := hw.le
      omega
    · rw [words_stop hk h]; simp
  | succ n ih =>
    intro k hk hn
    cases h : nxStop (nx s k)
    · have hw := (nx_word h).1
      have h1 := hw.gt; have h2 := hw.from'; have h3 := hw.le
      rw [words_go hk h]
      have := ih (nx s k).to h3 (by omega)
      simp; omega
    · rw [words_stop hk h]; simp
theorem words_small (s : ByteArray) : (wordsFrom s 0).length ≤ s.size := by
  have := words_len s s.size 0 (Nat.zero_le _) (by omega)
  omega

end Go.Proofs.Ytfkfehkbdmemnaa
