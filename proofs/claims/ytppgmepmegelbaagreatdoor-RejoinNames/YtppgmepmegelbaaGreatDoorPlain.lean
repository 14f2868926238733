/- The plain functions of layer 1 (names of symbols and of variables, over bytes), without any program. -/
import Derived.Laws.RangeAny
namespace Go.Proofs.YtppgmepmegelbaaGreatDoor

def lowZ (r : Int) : Bool := decide (97 ≤ r) && decide (r ≤ 122)
def upZ (r : Int) : Bool := decide (65 ≤ r) && decide (r ≤ 84)
def digZ (r : Int) : Bool := decide (48 ≤ r) && decide (r ≤ 57)
def fitsB (s : ByteArray) : Bool := decide (1 ≤ s.size) && decide (s.size ≤ 12)
/-- The byte at a place, 0 where there is none. -/
def bt (s : ByteArray) (j : Nat) : Int := if h : j < s.size then ((s[j]'h).toNat : Int) else 0
def okName (j : Nat) (c : Int) : Bool := lowZ c || (decide (1 ≤ j) && digZ c)
def okVar (j : Nat) (c : Int) : Bool := upZ c || (decide (1 ≤ j) && (lowZ c || digZ c))
def okNum (j : Nat) (c : Int) : Bool := (decide (j = 0) && decide (c = 95)) || (decide (j = 1) && digZ c && decide (c ≠ 48)) || (decide (2 ≤ j) && digZ c)
def allB (p : Nat → Int → Bool) (s : ByteArray) (n : Nat) : Bool := (List.range n).all fun j => p j (bt s j)
def nameB (s : ByteArray) : Bool := fitsB s && allB okName s s.size
def writtenB (s : ByteArray) : Bool := allB okVar s s.size
def numberedB (s : ByteArray) : Bool := decide (2 ≤ s.size) && allB okNum s s.size
def varB (s : ByteArray) : Bool := fitsB s && (writtenB s || numberedB s)

theorem bt_of {s : ByteArray} {j : Nat} (h : j < s.size) : bt s j = ((s[j]'h).toNat : Int) := by simp [bt, h]
theorem bt_range (s : ByteArray) (j : Nat) : 0 ≤ bt s j ∧ bt s j ≤ 255 := by
  unfold bt
  split
  · rename_i h; have := (s[j]'h).toNat_lt; omega
  · omega
theorem allB_succ (p : Nat → Int → Bool) (s : ByteArray) (n : Nat) : allB p s (n + 1) = (allB p s n && p n (bt s n)) := by
  simp [allB, List.range_succ]
theorem allB_zero (p : Nat → Int → Bool) (s : ByteArray) : allB p s 0 = true := by simp [allB]
theorem allB_iff (p : Nat → Int → Bool) (s : ByteArray) (n : Nat) : allB p s n = true ↔ ∀ j, j < n → p j (bt s j) = true := by
  simp [allB]
theorem allB_false {p : Nat → Int → Bool} {s : ByteArray} {n k : Nat} (hk : k < n) (h : p k (bt s k) = false) : allB p s n = false := by
  cases e : allB p s n with
  | false => rfl
  | true => rw [(allB_iff p s n).1 e k hk] at h; cases h

end Go.Proofs.YtppgmepmegelbaaGreatDoor
