/- What is wrong with a text has a number that is not 0. -/
import Derived.Test.YtkcbhbkldcebiaaXPure
namespace Go.Proofs.Ytkcbhbkldcebiaa
open Go.RowKit Go.Deep

theorem look_err {s : ByteArray} {k : Nat} {e : Int × Nat} (h : lookP s k = .error e) : e.1 ≠ 0 := by
  unfold lookP at h
  split at h
  · cases h
  · rename_i hz; cases h; exact hz
theorem next_err {s : ByteArray} {k : Nat} {e : Int × Nat} (h : nextP s k = .error e) : e.1 ≠ 0 := by
  unfold nextP at h
  cases hl : lookP s k with
  | error q => rw [hl] at h; cases h; exact look_err hl
  | ok q =>
    rw [hl] at h
    dsimp only at h
    split at h
    · cases h; exact (by decide : (51 : Int) ≠ 0)
    · cases h
theorem pass_err {s : ByteArray} {k : Nat} {kd : Int} {e : Int × Nat} (h : passP s k kd = .error e) : e.1 ≠ 0 := by
  unfold passP at h
  cases hl : lookP s k with
  | error q => rw [hl] at h; cases h; exact look_err hl
  | ok q =>
    rw [hl] at h
    dsimp only at h
    split at h <;> cases h
theorem want_err {s : ByteArray} {k : Nat} {kd : Int} {e : Int × Nat} (h : wantP s k kd = .error e) : e.1 ≠ 0 := by
  unfold wantP at h
  cases hl : nextP s k with
  | error q => rw [hl] at h; cases h; exact next_err hl
  | ok q =>
    rw [hl] at h
    dsimp only at h
    split at h
    · cases h
    · cases h; exact (by decide : (52 : Int) ≠ 0)
theorem rd1_node {s : ByteArray} {l : List Sym} {R : Bool → Nat → Except (Int × Nat) (Fo × Nat)} {k : Nat} {F : Fo} {k' : Nat} (h : rd1 s l R false k = .ok (F, k')) : ∃ x m, F = .node 0 0 x m .nil := by
  unfold rd1 at h
  dsimp only at h
  cases hn : nextP s k with
  | error e => rw [hn] at h; cases h
  | ok r =>
    rw [hn] at h
    dsimp only at h
    split at h
    · cases h; exact ⟨_, _, rfl⟩
    · split at h
      · split at h
        · cases hp : passP s r.to 3 with
          | error e => rw [hp] at h; cases h
          | ok q =>
            obtain ⟨b, k1⟩ := q
            rw [hp] at h
            cases b with
            | false => cases h; exact ⟨_, _, rfl⟩
            | true =>
              dsimp only at h
              cases hr : R false k1 with
              | error e => rw [hr] at h; cases h
              | ok q =>
                obtain ⟨G, k2⟩ := q
                rw [hr] at h
                cases G with
                | nil => cases h
                | node _ _ x m' _ =>
                  dsimp only at h
                  cases ht : R true k2 with
                  | error e => rw [ht] at h; cases h
                  | ok q => rw [ht] at h; cases h; exact ⟨_, _, rfl⟩
        · cases h
      · cases h
theorem rdC_node {s : ByteArray} {l : List Sym} {k : Nat} {F : Fo} {k' : Nat} (hk : k ≤ s.size) (h : rdC s l false k = .ok (F, k')) : ∃ x m, F = .node 0 0 x m .nil := by
  rw [rdC_eq hk] at h
  exact rd1_node h
theorem rdC_err {s : ByteArray} {l : List Sym} : ∀ (z : Nat) (m : Bool) (k : Nat) (e : Int × Nat), k ≤ s.size → s.size - k ≤ z → rdC s l m k = .error e → e.1 ≠ 0 := by
  intro z
  induction z using Nat.strongRecOn with
  | _ z ih =>
    intro m k e hk hz h
    rw [rdC_eq hk] at h
    have hI : ∀ (m : Bool) (k1 : Nat) (e : Int × Nat), k < k1 → k1 ≤ s.size → rdC s l m k1 = .error e → e.1 ≠ 0 := fun m k1 e h1 h2 h3 => ih (s.size - k1) (by omega) m k1 e h2 (Nat.le_refl _) h3
    cases m with
    | false =>
      unfold rd1 at h
      dsimp only at h
      cases hn : nextP s k with
      | error q => rw [hn] at h; cases h; exact next_err hn
      | ok r =>
        rw [hn] at h
        dsimp only at h
        have h0 := next_ok hk hn
        split at h
        · cases h
        · split at h
          · split at h
            · cases hp : passP s r.to 3 with
              | error q => rw [hp] at h; cases h; exact pass_err hp
              | ok q =>
                obtain ⟨b, k1⟩ := q
                rw [hp] at h
                cases b with
                | false => cases h
                | true =>
                  have h1 := pass_true h0.2 (by decide) hp
                  dsimp only at h
                  cases hr : rdC s l false k1 with
                  | error q => rw [hr] at h; cases h; exact hI _ _ _ (by omega) h1.2 hr
                  | ok q =>
                    obtain ⟨G, k2⟩ := q
                    have h2 := rdC_to h1.2 hr
                    obtain ⟨x, m', rfl⟩ := rdC_node h1.2 hr
                    rw [hr] at h
                    dsimp only at h
                    cases ht : rdC s l true k2 with
                    | error q => rw [ht] at h; cases h; exact hI _ _ _ (by omega) h2.2 ht
                    | ok q => rw [ht] at h; cases h
            · cases h; exact (by decide : (53 : Int) ≠ 0)
          · cases h; exact (by decide : (52 : Int) ≠ 0)
    | true =>
      unfold rd1 at h
      dsimp only at h
      cases hp : passP s k 5 with
      | error q => rw [hp] at h; cases h; exact pass_err hp
      | ok q =>
        obtain ⟨b, k1⟩ := q
        rw [hp] at h
        cases b with
        | false =>
          dsimp only at h
          cases hw : wantP s k 4 with
          | error q => rw [hw] at h; cases h; exact want_err hw
          | ok r => rw [hw] at h; cases h
        | true =>
          have h1 := pass_true hk (by decide) hp
          dsimp only at h
          cases hr : rdC s l false k1 with
          | error q => rw [hr] at h; cases h; exact hI _ _ _ h1.1 h1.2 hr
          | ok q =>
            obtain ⟨G, k2⟩ := q
            have h2 := rdC_to h1.2 hr
            obtain ⟨x, m', rfl⟩ := rdC_node h1.2 hr
            rw [hr] at h
            dsimp only at h
            cases ht : rdC s l true k2 with
            | error q => rw [ht] at h; cases h; exact hI _ _ _ (by omega) h2.2 ht
            | ok q => rw [ht] at h; cases h
/-- What stands behind an argument, by the one word there. -/
theorem tail_eq {s : ByteArray} {l : List Sym} {k : Nat} (hk : k ≤ s.size) : rdC s l true k = (if (nx s k).err = 0 then (if (nx s k).word.kind = 0 then .error (51, s.size) else if (nx s k).word.kind = 4 then .ok (.nil, (nx s k).to) else if (nx s k).word.kind = 5 then (match rdC s l false (nx s k).to with
      | .error e => .error e
      | .ok (.nil, _) => .error (0, 0)
      | .ok (.node _ _ x m _, k2) => match rdC s l true k2 with
        | .error e => .error e
        | .ok (F, k3) => .ok (.node 0 0 x m F, k3)) else .error (52, (nx s k).word.place)) else .error ((nx s k).err, (nx s k).to)) := by
  rw [rdC_eq hk]
  unfold rd1 passP wantP nextP lookP
  dsimp only
  by_cases he : (nx s k).err = 0
  · rw [if_pos he, if_pos he]
    dsimp only
    by_cases h5 : (nx s k).word.kind = 5
    · rw [if_pos h5, if_neg (by omega), if_neg (by omega), if_pos h5]
      dsimp only
      rw [if_neg (show ¬ (nx s k).word.kind = 4 by omega)]
      rfl
    · rw [if_neg h5]
      dsimp only
      by_cases h0 : (nx s k).word.kind = 0
      · rw [if_pos h0, if_pos h0]
      · rw [if_neg h0, if_neg h0]
        dsimp only
        by_cases h4 : (nx s k).word.kind = 4
        · rw [if_pos h4, if_pos h4]
        · rw [if_neg h4, if_neg h4, if_neg h5]
  · rw [if_neg he, if_neg he]
end Go.Proofs.Ytkcbhbkldcebiaa
