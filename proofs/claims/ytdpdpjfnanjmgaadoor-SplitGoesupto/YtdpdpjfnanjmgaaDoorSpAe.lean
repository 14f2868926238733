/- Plainly: the parts one behind the other. -/
import Derived.Test.YtdpdpjfnanjmgaaDoorSpAd
namespace Go.Proofs.YtdpdpjfnanjmgaaDoor

def zer (left : List Nat) : List Nat := List.replicate left.length 0
/-- The part behind a part. -/
def nextP (k : Nat) : List Nat → List Nat → Option (List Nat)
  | l :: ls, n :: p => match nextP k ls p with
    | some q => some (n :: q)
    | none => if k * (n + 1) ≤ l then some ((n + 1) :: zer ls) else none
  | _, _ => none
/-- A list of parts, each behind the last. -/
def Chn (k : Nat) (left : List Nat) : List (List Nat) → Prop
  | [] => True
  | [_] => True
  | p :: q :: l => nextP k left p = some q ∧ Chn k left (q :: l)
theorem Chn.app {k : Nat} {left : List Nat} : ∀ {a b : List (List Nat)} {p q : List Nat}, Chn k left (a ++ [p]) → Chn k left (q :: b) → nextP k left p = some q → Chn k left (a ++ [p] ++ q :: b)
  | [], _, _, _, _, h2, h3 => ⟨h3, h2⟩
  | [_], _, _, _, h1, h2, h3 => ⟨h1.1, h3, h2⟩
  | _ :: y :: a, _, _, _, h1, h2, h3 => ⟨h1.1, Chn.app (a := y :: a) h1.2 h2 h3⟩
theorem Chn.cons {k l n : Nat} {ls : List Nat} : ∀ {a : List (List Nat)}, Chn k ls a → Chn k (l :: ls) (a.map (n :: ·))
  | [], _ => trivial
  | [_], _ => trivial
  | p :: q :: a, h => ⟨by simp only [nextP, h.1], Chn.cons (a := q :: a) h.2⟩
theorem boxes_ne {k : Nat} : ∀ left : List Nat, ∃ t, boxes k left = zer left :: t
  | [] => ⟨[], rfl⟩
  | l :: ls => by
    obtain ⟨t, ht⟩ := boxes_ne (k := k) ls
    unfold boxes
    rw [List.range_succ_eq_map, List.flatMap_cons, ht]
    exact ⟨_, rfl⟩
theorem boxes_chn {k : Nat} (hk : 1 ≤ k) : ∀ left : List Nat, Chn k left (boxes k left) ∧ ∃ a p, boxes k left = a ++ [p] ∧ nextP k left p = none
  | [] => ⟨trivial, [], [], rfl, rfl⟩
  | l :: ls => by
    obtain ⟨h1, a, p, h2, h3⟩ := boxes_chn hk ls
    obtain ⟨t, ht⟩ := boxes_ne (k := k) ls
    have go : ∀ m, m ≤ l / k → Chn k (l :: ls) ((List.range (m + 1)).flatMap fun n => (boxes k ls).map (n :: ·)) ∧ ∃ b, ((List.range (m + 1)).flatMap fun n => (boxes k ls).map (n :: ·)) = b ++ [m :: p] := by
      intro m
      induction m with
      | zero =>
        intro _
        have e : ((List.range (0 + 1)).flatMap fun n => (boxes k ls).map (n :: ·)) = (boxes k ls).map (0 :: ·) := by simp [List.range_succ]
        rw [e]
        exact ⟨h1.cons, a.map (0 :: ·), by rw [h2]; simp⟩
      | succ m ih =>
        intro hm
        obtain ⟨g1, b, g2⟩ := ih (by omega)
        have e : ((List.range (m + 1 + 1)).flatMap fun n => (boxes k ls).map (n :: ·)) = ((List.range (m + 1)).flatMap fun n => (boxes k ls).map (n :: ·)) ++ (boxes k ls).map ((m + 1) :: ·) := by
          rw [List.range_succ (n := m + 1), List.flatMap_append]; simp
        rw [e, g2]
        constructor
        · rw [g2] at g1
          have h4 : Chn k (l :: ls) ((boxes k ls).map ((m + 1) :: ·)) := h1.cons
          rw [ht, List.map_cons] at h4 ⊢
          refine Chn.app g1 h4 ?_
          have : k * (m + 1) ≤ l := by
            have := (Nat.le_div_iff_mul_le (show 0 < k by omega)).1 hm
            rwa [Nat.mul_comm] at this
          simp only [nextP, h3, if_pos this]
        · exact ⟨b ++ [m :: p] ++ a.map ((m + 1) :: ·), by rw [h2]; simp⟩
    obtain ⟨g1, b, g2⟩ := go (l / k) (Nat.le_refl _)
    unfold boxes
    refine ⟨g1, b, _, g2, ?_⟩
    have : ¬ k * (l / k + 1) ≤ l := by
      have := Nat.lt_mul_div_succ l (show 0 < k by omega)
      omega
    simp only [nextP, h3, if_neg this]
/-- Where all are full, there is none behind. -/
theorem next_none {k : Nat} : ∀ {left p : List Nat}, p.length = left.length → (∀ i < left.length, left.getD i 0 < k * (p.getD i 0 + 1)) → nextP k left p = none
  | [], _, _, _ => by unfold nextP; rfl
  | _ :: _, [], h, _ => by simp at h
  | l :: ls, n :: p, h, hf => by
    have h1 := next_none (k := k) (left := ls) (p := p) (by simpa using h) fun i hi => by simpa using hf (i + 1) (by simpa using hi)
    have h2 := hf 0 (by simp)
    simp only [List.getD_cons_zero] at h2
    simp only [nextP, h1, if_neg (Nat.not_le.2 h2)]
/-- The part behind: from the right, the first that is not full. -/
theorem next_some {k : Nat} : ∀ {left p : List Nat} {j : Nat}, p.length = left.length → j < left.length → (∀ i < left.length, j < i → left.getD i 0 < k * (p.getD i 0 + 1)) → k * (p.getD j 0 + 1) ≤ left.getD j 0 → nextP k left p = some (p.take j ++ (p.getD j 0 + 1) :: List.replicate (left.length - (j + 1)) 0)
  | [], _, _, _, hj, _, _ => by simp at hj
  | _ :: _, [], _, h, _, _, _ => by simp at h
  | l :: ls, n :: p, 0, h, _, hf, hc => by
    have h1 := next_none (k := k) (left := ls) (p := p) (by simpa using h) fun i hi => by simpa using hf (i + 1) (by simpa using hi) (by omega)
    simp only [List.getD_cons_zero] at hc
    simp only [nextP, h1, if_pos hc]
    simp [zer]
  | l :: ls, n :: p, j + 1, h, hj, hf, hc => by
    have h1 := next_some (k := k) (left := ls) (p := p) (j := j) (by simpa using h) (by simpa using hj) (fun i hi hl => by simpa using hf (i + 1) (by simpa using hi) (by omega)) (by simpa using hc)
    simp only [nextP, h1]
    simp
/-- The ways behind a part. -/
def behP (e : Bool) (k : Nat) (ks left p : List Nat) : List (List (List Nat)) := if e || !p.all (· == 0) then (WW e ks (subP k left p)).map (p :: ·) else []
theorem flat_filter {α β : Type} (f : α → Bool) (g : α → List β) : ∀ l : List α, (l.filter f).flatMap g = l.flatMap fun x => if f x then g x else []
  | [] => rfl
  | x :: l => by
    rw [List.filter_cons, List.flatMap_cons]
    split
    · rw [List.flatMap_cons, flat_filter f g l]
    · rw [flat_filter f g l, List.nil_append]
theorem WW_cons {e : Bool} {k : Nat} {ks left : List Nat} : WW e (k :: ks) left = (boxes k left).flatMap (behP e k ks left) := by
  conv => lhs; unfold WW
  rw [flat_filter]
  rfl
/-- What is in hand after some parts. -/
theorem hand_more {α : Type} (out D X : List α) (most : Nat) (h : (out ++ D).length < most) : out ++ (D ++ X).take (most - out.length) = (out ++ D) ++ X.take (most - (out ++ D).length) := by
  rw [List.length_append] at h ⊢
  rw [List.take_append, List.take_of_length_le (by omega), List.append_assoc, Nat.sub_sub]
theorem hand_full {α : Type} (out D X : List α) (most : Nat) (h : most ≤ (out ++ D).length) (ho : out.length ≤ most) : out ++ (D ++ X).take (most - out.length) = out ++ D.take (most - out.length) := by
  rw [List.length_append] at h
  rw [List.take_append_of_le_length (by omega)]
end Go.Proofs.YtdpdpjfnanjmgaaDoor
