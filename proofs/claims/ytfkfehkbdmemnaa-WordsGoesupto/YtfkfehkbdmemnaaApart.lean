/- Two texts with a blank between have the words of the one, then those of the other: without any program. -/
import Derived.Test.YtfkfehkbdmemnaaStand
namespace Go.Proofs.Ytfkfehkbdmemnaa

/-- c is a, then a blank, then b. -/
structure Joined (a b c : ByteArray) : Prop where
  size : c.size = a.size + 1 + b.size
  left : ∀ j, j < a.size → bt c j = bt a j
  mid : bt c a.size = 32
  right : b = c.extract (a.size + 1) c.size

theorem bt_app_left (a b : ByteArray) (j : Nat) (h : j < a.size) : bt (a ++ b) j = bt a j := by
  have h' : j < (a ++ b).size := by rw [ByteArray.size_append]; omega
  rw [bt_of h, bt_of h']
  congr 2
  exact ByteArray.getElem_append_left h
theorem bt_app_right (a b : ByteArray) (j : Nat) (h : a.size ≤ j) : bt (a ++ b) j = bt b (j - a.size) := by
  by_cases h1 : j < (a ++ b).size
  · have h2 : j - a.size < b.size := by rw [ByteArray.size_append] at h1; omega
    rw [bt_of h1, bt_of h2]
    congr 2
    exact ByteArray.getElem_append_right h
  · rw [bt_out (by omega), bt_out (by rw [ByteArray.size_append] at h1; omega)]
theorem joined_of (a b : ByteArray) : Joined a b (a ++ ⟨#[32]⟩ ++ b) := by
  have h1 : (⟨#[32]⟩ : ByteArray).size = 1 := rfl
  have hs : (a ++ ⟨#[32]⟩ ++ b).size = a.size + 1 + b.size := by rw [ByteArray.size_append, ByteArray.size_append, h1]
  have hs2 : (a ++ (⟨#[32]⟩ : ByteArray)).size = a.size + 1 := by rw [ByteArray.size_append, h1]
  refine ⟨hs, fun j hj => ?_, ?_, ?_⟩
  · rw [bt_app_left _ _ j (by omega), bt_app_left _ _ j hj]
  · rw [bt_app_left _ _ _ (by omega), bt_app_right _ _ _ (Nat.le_refl _), Nat.sub_self]
    decide +kernel
  · refine ext_bt (by simp only [ByteArray.size_extract]; rw [hs]; omega) (fun j hj => ?_)
    rw [bt_tail, bt_app_right _ _ _ (by omega), hs2]
    congr 1
    omega

theorem nx_at_end {s : ByteArray} {k : Nat} (h : s.size ≤ runTo blank s k) : nx s k = ⟨noWd, runTo blank s k, 0⟩ := by
  unfold nx; rw [if_pos h]
theorem nx_ok {s : ByteArray} {k : Nat} (h : runTo blank s k < s.size) (he : errP s (runTo blank s k) = 0) : nx s k = ⟨⟨kindP s (runTo blank s k), s.extract (runTo blank s k) (endP s (runTo blank s k)), runTo blank s k⟩, endP s (runTo blank s k), 0⟩ := by
  unfold nx; rw [if_neg (by omega), if_pos he]
theorem nx_bad {s : ByteArray} {k : Nat} (h : runTo blank s k < s.size) (he : errP s (runTo blank s k) ≠ 0) : nx s k = ⟨noWd, runTo blank s k, errP s (runTo blank s k)⟩ := by
  unfold nx; rw [if_neg (by omega), if_neg he]
def shiftW (d : Nat) (x : Wd) : Wd := ⟨x.kind, x.text, d + x.place⟩

section
variable {a b c : ByteArray} (J : Joined a b c)

theorem okTail_blank (f : Int) : okTail f 32 = false := by simp [okTail, digZ, lowZ, upZ]
/-- A byte behind a byte of the first text, asked for being one that is no blank. -/
theorem Joined.next (J : Joined a b c) {p : Nat} (hp : p < a.size) (v : Int) (hv : v ≠ 32) (hv0 : v ≠ 0) : (bt c (p + 1) == v) = (bt a (p + 1) == v) := by
  by_cases h : p + 1 < a.size
  · rw [J.left _ h]
  · have e : p + 1 = a.size := by omega
    rw [e, J.mid, bt_out (Nat.le_refl _)]
    rw [show ((32 : Int) == v) = false from beq_eq_false_iff_ne.2 (fun h => hv h.symm), show ((0 : Int) == v) = false from beq_eq_false_iff_ne.2 (fun h => hv0 h.symm)]
theorem Joined.kind (J : Joined a b c) {p : Nat} (hp : p < a.size) : kindP c p = kindP a p := by
  unfold kindP
  rw [J.left p hp, J.next hp 62 (by omega) (by omega)]
theorem Joined.run (J : Joined a b c) {f : Int} {k : Nat} (hk : k ≤ a.size) : runTo (okTail f) c k = runTo (okTail f) a k := by
  have g := runTo_ge (okTail f) a k
  have l := runTo_le (p := okTail f) hk
  have hz := J.size
  refine runTo_eq g (by omega) (fun j h1 h2 => ?_) (fun _ => ?_)
  · rw [J.left j (by omega)]; exact runTo_all h1 h2
  · by_cases h : runTo (okTail f) a k < a.size
    · rw [J.left _ h]; exact runTo_at hk h
    · rw [show runTo (okTail f) a k = a.size by omega, J.mid]; exact okTail_blank f
theorem Joined.ends (J : Joined a b c) {p : Nat} (hp : p < a.size) : endP c p = endP a p := by
  unfold endP lenK
  rw [J.kind hp, J.left p hp, J.run (by omega)]
theorem Joined.err (J : Joined a b c) {p : Nat} (hp : p < a.size) : errP c p = errP a p := by
  unfold errP badP
  rw [J.kind hp, J.left p hp, J.ends hp, J.next hp 48 (by omega) (by omega)]
theorem Joined.part (J : Joined a b c) {p e : Nat} (he : e ≤ a.size) : c.extract p e = a.extract p e := by
  have hz := J.size
  refine ext_bt (by simp; omega) (fun j hj => ?_)
  rw [bt_ext c p e j (by omega), bt_ext a p e j he]
  split
  · exact J.left _ (by omega)
  · rfl
theorem Joined.blanks (J : Joined a b c) {k : Nat} (hk : k ≤ a.size) (h : runTo blank a k < a.size) : runTo blank c k = runTo blank a k := by
  have hz := J.size
  refine runTo_eq (runTo_ge _ _ _) (by omega) (fun j h1 h2 => ?_) (fun _ => ?_)
  · rw [J.left j (by omega)]; exact runTo_all h1 h2
  · rw [J.left _ h]; exact runTo_at hk h
/-- A word of the first text is one of the whole. -/
theorem Joined.nxWord (J : Joined a b c) {k : Nat} (hk : k ≤ a.size) (h : nxStop (nx a k) = false) : nx c k = nx a k := by
  have hz := J.size
  have hw := (nx_word h).1
  have hlt : runTo blank a k < a.size := by rw [← hw.place]; exact hw.lt
  have hok : errP a (runTo blank a k) = 0 := by rw [← hw.place]; exact hw.ok
  have hb := J.blanks hk hlt
  rw [nx_ok hlt hok, nx_ok (s := c) (by rw [hb]; omega) (by rw [hb, J.err hlt]; exact hok), hb, J.kind hlt, J.ends hlt, J.part (endP_le hlt)]
/-- Behind the first text's last word the whole goes on at the second text. -/
theorem Joined.nxEnd (J : Joined a b c) {k : Nat} (hk : k ≤ a.size) (h : nxStop (nx a k) = true) (he : (nx a k).err = 0) : nx c k = nx c (a.size + 1) := by
  have hz := J.size
  have hge : a.size ≤ runTo blank a k := by
    unfold nx at he h
    split at he
    · assumption
    · rename_i h1
      split at he
      · rename_i h2
        rw [if_neg h1, if_pos h2] at h
        simp [nxStop, errP_kind h2] at h
      · rename_i h2
        exact absurd he h2
  have hrun : runTo blank c k = runTo blank c (a.size + 1) := by
    have g := runTo_ge blank c (a.size + 1)
    have l := runTo_le (p := blank) (s := c) (k := a.size + 1) (by omega)
    refine runTo_eq (by omega) l (fun j h1 h2 => ?_) (fun h => runTo_at (by omega) h)
    rcases Nat.lt_trichotomy j a.size with hj | hj | hj
    · rw [J.left j hj]; exact runTo_all h1 (by omega)
    · rw [hj, J.mid]; rfl
    · exact runTo_all (k := a.size + 1) (by omega) h2
  unfold nx
  rw [hrun]
theorem kindP_shift (s : ByteArray) (d j : Nat) : kindP (s.extract d s.size) j = kindP s (d + j) := by
  unfold kindP
  simp only [bt_tail, Nat.add_assoc]
theorem endP_shift (s : ByteArray) (d j : Nat) (h : d + j < s.size) : d + endP (s.extract d s.size) j = endP s (d + j) := by
  unfold endP lenK
  rw [kindP_shift]
  split
  · rw [bt_tail, runTo_tail _ s d (j + 1) (by omega), Nat.add_assoc]
  · split <;> omega
theorem errP_shift (s : ByteArray) (d j : Nat) (h : d + j < s.size) : errP (s.extract d s.size) j = errP s (d + j) := by
  have he := endP_shift s d j h
  unfold errP badP
  rw [kindP_shift, bt_tail, bt_tail, ← Nat.add_assoc]
  have e1 : (endP (s.extract d s.size) j == j + 1) = (endP s (d + j) == d + j + 1) := by
    rw [Bool.eq_iff_iff, beq_iff_eq, beq_iff_eq]; omega
  rw [e1]
  have e2 : (j + 12 < endP (s.extract d s.size) j) = (d + j + 12 < endP s (d + j)) := by
    apply propext; omega
  simp only [e2]
theorem ext_ext (s : ByteArray) (d p e : Nat) (he : d + e ≤ s.size) : (s.extract d s.size).extract p e = s.extract (d + p) (d + e) := by
  refine ext_bt (by simp; omega) (fun j hj => ?_)
  rw [bt_ext _ p e j (by simp; omega), bt_ext s (d + p) (d + e) j he, bt_tail]
  by_cases h : p + j < e
  · rw [if_pos h, if_pos (by omega), Nat.add_assoc]
  · rw [if_neg h, if_neg (by omega)]
/-- Next in the rest of a text. -/
theorem nx_shift (s : ByteArray) (d k : Nat) (h : d + k ≤ s.size) :
    (nxStop (nx (s.extract d s.size) k) = true ∧ nx s (d + k) = ⟨noWd, d + (nx (s.extract d s.size) k).to, (nx (s.extract d s.size) k).err⟩) ∨
    (nxStop (nx (s.extract d s.size) k) = false ∧ nx s (d + k) = ⟨shiftW d (nx (s.extract d s.size) k).word, d + (nx (s.extract d s.size) k).to, 0⟩) := by
  have hz : (s.extract d s.size).size = s.size - d := by simp
  have hr := runTo_tail blank s d k h
  by_cases h1 : (s.extract d s.size).size ≤ runTo blank (s.extract d s.size) k
  · left
    rw [nx_at_end h1, nx_at_end (s := s) (by omega), ← hr]
    exact ⟨rfl, rfl⟩
  · have hp : runTo blank (s.extract d s.size) k < (s.extract d s.size).size := by omega
    have hq : runTo blank s (d + k) < s.size := by omega
    have hes := errP_shift s d (runTo blank (s.extract d s.size) k) (by omega)
    rw [hr] at hes
    by_cases h2 : errP (s.extract d s.size) (runTo blank (s.extract d s.size) k) = 0
    · right
      rw [nx_ok hp h2, nx_ok hq (by rw [← hes]; exact h2), ← hr]
      refine ⟨by simp [nxStop, errP_kind h2], ?_⟩
      have hle := endP_le hp
      rw [← endP_shift s d _ (by omega), ← kindP_shift, ← ext_ext s d _ _ (by omega)]
      rfl
    · left
      rw [nx_bad hp h2, nx_bad hq (by rw [← hes]; exact h2), ← hes, ← hr]
      exact ⟨by simp [nxStop, h2], rfl⟩

/-- The words of the rest of a text. -/
theorem lst_shift (s : ByteArray) (d : Nat) : ∀ n k, d + k ≤ s.size → s.size - (d + k) ≤ n → wordsFrom s (d + k) = (wordsFrom (s.extract d s.size) k).map (shiftW d) ∧ (lst s (d + k)).2.2 = (lst (s.extract d s.size) k).2.2 := by
  have hz : (s.extract d s.size).size = s.size - d := by simp
  intro n
  induction n with
  | zero =>
    intro k hk hn
    rcases nx_shift s d k hk with ⟨h, e⟩ | ⟨h, e⟩
    · have hs : nxStop (nx s (d + k)) = true := by rw [e]; simp [nxStop, noWd]
      refine ⟨by rw [words_stop hk hs, words_stop (by omega) h]; rfl, ?_⟩
      rw [lst_stop hk hs, lst_stop (by omega) h, e]
    · have hw := (nx_word h).1
      have h1 := hw.gt; have h2 := hw.from'; have h3 := hw.le
      omega
  | succ n ih =>
    intro k hk hn
    rcases nx_shift s d k hk with ⟨h, e⟩ | ⟨h, e⟩
    · have hs : nxStop (nx s (d + k)) = true := by rw [e]; simp [nxStop, noWd]
      refine ⟨by rw [words_stop hk hs, words_stop (by omega) h]; rfl, ?_⟩
      rw [lst_stop hk hs, lst_stop (by omega) h, e]
    · have hw := (nx_word h).1
      have h1 := hw.gt; have h2 := hw.from'; have h3 := hw.le
      have hs : nxStop (nx s (d + k)) = false := by
        have := hw.kind0
        rw [e]; simp [nxStop, shiftW, this]
      have hi := ih (nx (s.extract d s.size) k).to (by omega) (by omega)
      refine ⟨?_, ?_⟩
      · rw [words_go hk hs, words_go (by omega) h, e, List.map_cons]
        simp only
        rw [hi.1]
      · rw [lst_next hk hs, lst_next (by omega) h, e]
        simp only
        exact hi.2
/-- The words of the whole. -/
theorem Joined.lst (J : Joined a b c) : ∀ n k, k ≤ a.size → a.size - k ≤ n → (lst a k).2.2 = 0 → wordsFrom c k = wordsFrom a k ++ wordsFrom c (a.size + 1) ∧ (Go.Proofs.Ytfkfehkbdmemnaa.lst c k).2.2 = (Go.Proofs.Ytfkfehkbdmemnaa.lst c (a.size + 1)).2.2 := by
  have hz := J.size
  intro n
  have stop : ∀ k, k ≤ a.size → nxStop (nx a k) = true → (Go.Proofs.Ytfkfehkbdmemnaa.lst a k).2.2 = 0 → wordsFrom c k = wordsFrom a k ++ wordsFrom c (a.size + 1) ∧ (Go.Proofs.Ytfkfehkbdmemnaa.lst c k).2.2 = (Go.Proofs.Ytfkfehkbdmemnaa.lst c (a.size + 1)).2.2 := by
    intro k hk h he
    rw [lst_stop hk h] at he
    have e := J.nxEnd hk h he
    have hl : Go.Proofs.Ytfkfehkbdmemnaa.lst c k = Go.Proofs.Ytfkfehkbdmemnaa.lst c (a.size + 1) := by
      cases hs : nxStop (nx c k)
      · have h1 := lst_go (s := c) (k := k) (by omega) hs
        have h2 := lst_go (s := c) (k := a.size + 1) (by omega) (by rw [← e]; exact hs)
        rw [h1, h2, e]
      · have h1 := lst_stop (s := c) (k := k) (by omega) hs
        have h2 := lst_stop (s := c) (k := a.size + 1) (by omega) (by rw [← e]; exact hs)
        rw [h1, h2, e]
    refine ⟨?_, by rw [hl]⟩
    rw [words_stop hk h]
    unfold wordsFrom
    rw [hl]; rfl
  induction n with
  | zero =>
    intro k hk hn he
    cases h : nxStop (nx a k)
    · have hw := (nx_word h).1
      have h1 := hw.gt; have h2 := hw.from'; have h3 := hw.le
      omega
    · exact stop k hk h he
  | succ n ih =>
    intro k hk hn he
    cases h : nxStop (nx a k)
    · have hw := (nx_word h).1
      have h1 := hw.gt; have h2 := hw.from'; have h3 := hw.le
      have e := J.nxWord hk h
      rw [lst_go hk h] at he
      have hi := ih (nx a k).to h3 (by omega) he
      refine ⟨?_, ?_⟩
      · rw [words_go (s := c) (by omega) (by rw [e]; exact h), words_go hk h, e, hi.1]; rfl
      · rw [lst_next (s := c) (by omega) (by rw [e]; exact h), e]
        exact hi.2
    · exact stop k hk h he
/-- P2.2. -/
theorem Joined.words (J : Joined a b c) (ha : errOf a = 0) (hb : errOf b = 0) : errOf c = 0 ∧ wordsFrom c 0 = wordsFrom a 0 ++ (wordsFrom b 0).map (shiftW (a.size + 1)) := by
  have hz := J.size
  have h1 := J.lst a.size 0 (Nat.zero_le _) (by omega) ha
  have h2 := lst_shift c (a.size + 1) c.size 0 (by omega) (by omega)
  rw [← J.right, Nat.add_zero] at h2
  exact ⟨by unfold errOf; rw [h1.2, h2.2]; exact hb, by rw [h1.1, h2.1]⟩
end
end Go.Proofs.Ytfkfehkbdmemnaa
