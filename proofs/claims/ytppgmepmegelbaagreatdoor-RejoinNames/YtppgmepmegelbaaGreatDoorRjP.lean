/- Fresh variables' names and numbers, plainly. -/
import Derived.Lib.Atoi
import Derived.Lib.ItoaNum
namespace Go.Proofs.YtppgmepmegelbaaGreatDoor
open Go.Lib

/-- The name of a number. -/
def nameL (n : Int) : List UInt8 := if n < 1 ∨ 99999999999 < n then [] else 95 :: itoa n
/-- The number of a name, as the document says it. -/
def numL (s : List UInt8) : Option Nat :=
  if s.length < 2 ∨ 12 < s.length ∨ s[0]? ≠ some 95 ∨ s[1]? = some 48 then none else decFrom 0 (s.drop 1)
/-- The number of a name, as the program says it. -/
def numP (s : List UInt8) : Option Int :=
  if s[0]? ≠ some 95 ∨ 12 < s.length then none
  else match atoi (s.drop 1) with
    | none => none
    | some n => if nameL n = s then some n else none

theorem itoa_nat {n : Int} (h : 0 ≤ n) : itoa n = decDigits n.toNat := by unfold itoa; rw [if_neg (by omega)]

theorem nd_le (k u : Nat) (hk : 1 ≤ k) : nDigits u ≤ k ↔ u < 10 ^ k := by
  constructor
  · intro h
    exact Nat.lt_of_lt_of_le (lt_pow_nDigits u) (Nat.pow_le_pow_right (by omega) h)
  · intro h
    induction k generalizing u with
    | zero => omega
    | succ k ih =>
      by_cases hu : u < 10
      · rw [nDigits_small hu]; omega
      · rw [nDigits_big hu]
        rw [Nat.pow_succ] at h
        by_cases hk0 : k = 0
        · subst hk0; omega
        · have := ih (u / 10) (by omega) (by omega); omega

/-- What is too long is too great. -/
theorem name_long {n : Int} (h : 1 ≤ n) : 12 < (95 :: itoa n).length ↔ 99999999999 < n := by
  rw [itoa_nat (by omega), List.length_cons, decDigits_length]
  have := nd_le 11 n.toNat (by omega)
  have e : (10 : Nat) ^ 11 = 100000000000 := by decide
  rw [e] at this
  omega

theorem decFrom_app (l r : List UInt8) : ∀ acc, decFrom acc (l ++ r) = (decFrom acc l).bind fun m => decFrom m r := by
  induction l with
  | nil => intro acc; rfl
  | cons b t ih =>
    intro acc
    simp only [List.cons_append, decFrom]
    cases digitVal b with
    | none => rfl
    | some d => exact ih _

theorem digit_fin : ∀ d : Fin 10, digitVal (UInt8.ofNat (48 + d.val)) = some d.val := by decide +kernel
theorem digit_of {d : Nat} (h : d < 10) : digitVal (UInt8.ofNat (48 + d)) = some d := digit_fin ⟨d, h⟩

theorem dec_back (u : Nat) : decFrom 0 (decDigits u) = some u := by
  induction u using Nat.strongRecOn with
  | _ u ih =>
    by_cases h : u < 10
    · rw [decDigits, dif_pos h]; simp only [decFrom, digit_of h, Nat.zero_mul, Nat.zero_add]
    · rw [decDigits, dif_neg h, decFrom_app, ih (u / 10) (by omega)]
      simp only [Option.bind_some, decFrom, digit_of (Nat.mod_lt u (by omega : 0 < 10))]
      congr 1; omega

theorem dec_head (u : Nat) (h0 : 1 ≤ u) : (decDigits u)[0]? ≠ some 48 := by
  induction u using Nat.strongRecOn with
  | _ u ih =>
    by_cases h : u < 10
    · rw [decDigits, dif_pos h]
      have : ∀ d : Fin 10, 1 ≤ d.val → UInt8.ofNat (48 + d.val) ≠ 48 := by decide +kernel
      simpa using this ⟨u, h⟩ h0
    · rw [decDigits, dif_neg h]
      have hl : 0 < (decDigits (u / 10)).length := by rw [decDigits_length]; exact nDigits_pos _
      rw [List.getElem?_append_left hl]
      exact ih (u / 10) (by omega) (by omega)

theorem digit_back {b : UInt8} {d : Nat} (h : digitVal b = some d) : d < 10 ∧ b = UInt8.ofNat (48 + d) := by
  unfold digitVal at h
  split at h
  · rename_i hc
    injection h with h
    refine ⟨by omega, ?_⟩
    apply UInt8.toNat_inj.mp
    rw [UInt8.toNat_ofNat']
    omega
  · cases h

/-- A row of digits that begins with no 0 is its number's. -/
theorem dec_unique (n : Nat) : ∀ (l : List UInt8), l.length = n → l ≠ [] → l[0]? ≠ some 48 → ∀ u, decFrom 0 l = some u → decDigits u = l ∧ 1 ≤ u := by
  induction n with
  | zero => intro l hl hne; exact absurd (List.eq_nil_of_length_eq_zero hl) hne
  | succ n ih =>
    intro l hl hne h0 u hu
    obtain ⟨t, b, rfl⟩ : ∃ t b, l = t ++ [b] := ⟨l.dropLast, l.getLast hne, (List.dropLast_concat_getLast hne).symm⟩
    rw [decFrom_app] at hu
    by_cases ht : t = []
    · subst ht
      simp only [decFrom, Option.bind_some, List.nil_append] at hu h0 ⊢
      cases hd : digitVal b with
      | none => simp [hd] at hu
      | some d =>
        simp only [hd, Nat.zero_mul, Nat.zero_add, Option.some.injEq] at hu
        subst hu
        obtain ⟨hd1, rfl⟩ := digit_back hd
        refine ⟨by rw [decDigits, dif_pos hd1], ?_⟩
        rcases Nat.eq_zero_or_pos d with rfl | h
        · exact absurd rfl h0
        · exact h
    · have htl : 0 < t.length := List.length_pos_iff.mpr ht
      rw [List.getElem?_append_left htl] at h0
      cases hm : decFrom 0 t with
      | none => simp [hm] at hu
      | some m =>
        obtain ⟨h1, h2⟩ := ih t (by simp at hl; exact hl) ht h0 m hm
        simp only [hm, Option.bind_some, decFrom] at hu
        cases hd : digitVal b with
        | none => simp [hd] at hu
        | some d =>
          simp only [hd, Option.some.injEq] at hu
          subst hu
          obtain ⟨hd1, rfl⟩ := digit_back hd
          refine ⟨?_, by omega⟩
          rw [decDigits, dif_neg (by omega), show (m * 10 + d) / 10 = m by omega, show (m * 10 + d) % 10 = d by omega, h1]

theorem atoi_nat {l : List UInt8} {u : Nat} (hne : l ≠ []) (h : decFrom 0 l = some u) : atoi l = some (u : Int) := by
  cases l with
  | nil => exact absurd rfl hne
  | cons b r =>
    obtain ⟨d, hd⟩ := digit_of_decFrom _ 0 u h 0 b rfl
    have h45 : (b == 45) = false := by
      rw [beq_eq_false_iff_ne]; rintro rfl; exact absurd hd (by simp [digitVal])
    have h43 : (b == 43) = false := by
      rw [beq_eq_false_iff_ne]; rintro rfl; exact absurd hd (by simp [digitVal])
    simp only [atoi, h45, h43, decNat, List.isEmpty_cons, h]
    rfl

/-- The number of a number's name. -/
theorem num_name {n : Int} (h1 : 1 ≤ n) (h2 : n ≤ 99999999999) : numL (nameL n) = some n.toNat := by
  have hl : ¬ 12 < (95 :: itoa n).length := fun h => by have := (name_long h1).mp h; omega
  unfold nameL
  rw [if_neg (by omega)]
  rw [itoa_nat (by omega)] at hl ⊢
  have hp : 0 < (decDigits n.toNat).length := by rw [decDigits_length]; exact nDigits_pos _
  unfold numL
  rw [if_neg]
  · exact dec_back _
  · rintro (h | h | h | h)
    · simp only [List.length_cons] at h; omega
    · exact hl h
    · exact h rfl
    · exact dec_head n.toNat (by omega) h

/-- What has a number is its name. -/
theorem name_num {s : List UInt8} {u : Nat} (h : numL s = some u) : nameL u = s ∧ 1 ≤ u ∧ u ≤ 99999999999 := by
  unfold numL at h
  split at h
  · cases h
  · rename_i hc
    have c1 : ¬ s.length < 2 := fun x => hc (.inl x)
    have c2 : ¬ 12 < s.length := fun x => hc (.inr (.inl x))
    have c3 : s[0]? = some 95 := Classical.byContradiction fun x => hc (.inr (.inr (.inl x)))
    have c4 : s[1]? ≠ some 48 := fun x => hc (.inr (.inr (.inr x)))
    cases s with
    | nil => simp at c1
    | cons a t =>
      simp only [List.getElem?_cons_zero, Option.some.injEq] at c3
      subst c3
      simp only [List.length_cons] at c1 c2
      simp only [List.drop_succ_cons, List.drop_zero] at h
      obtain ⟨h1, h2⟩ := dec_unique t.length t rfl (fun e => by subst e; simp at c1) c4 u h
      have h3 : u < 10 ^ 11 := (nd_le 11 u (by omega)).mp (by rw [← decDigits_length, h1]; omega)
      have e : (10 : Nat) ^ 11 = 100000000000 := by decide
      refine ⟨?_, h2, by omega⟩
      unfold nameL
      rw [if_neg (by omega), itoa_nat (by omega), Int.toNat_natCast, h1]

/-- The program's number is the document's. -/
theorem num_same (s : List UInt8) : numP s = (numL s).map fun (u : Nat) => (u : Int) := by
  cases hn : numL s with
  | some u =>
    obtain ⟨h1, h2, h3⟩ := name_num hn
    unfold numL at hn
    split at hn
    · cases hn
    · rename_i hc
      have c1 : ¬ s.length < 2 := fun x => hc (.inl x)
      have c2 : ¬ 12 < s.length := fun x => hc (.inr (.inl x))
      have c3 : s[0]? = some 95 := Classical.byContradiction fun x => hc (.inr (.inr (.inl x)))
      unfold numP
      rw [if_neg (fun x => x.elim (fun y => y c3) c2), atoi_nat (fun e => by have := congrArg List.length e; simp at this; omega) hn]
      simp only [h1, if_true, Option.map_some]
  | none =>
    show numP s = none
    unfold numP
    split
    · rfl
    · rename_i hc
      split
      · rfl
      · rename_i m hm
        split
        · rename_i he
          exfalso
          by_cases hr : m < 1 ∨ 99999999999 < m
          · unfold nameL at he
            rw [if_pos hr] at he
            subst he
            exact hc (.inl (by simp))
          · have := num_name (n := m) (by omega) (by omega)
            rw [he, hn] at this
            cases this
        · rfl
end Go.Proofs.YtppgmepmegelbaaGreatDoor
