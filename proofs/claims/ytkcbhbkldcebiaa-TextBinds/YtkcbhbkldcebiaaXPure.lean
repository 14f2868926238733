/- Reading goes forward; how much fuel is given makes no difference; the equations of reading a term and of what stands behind an argument. -/
import Derived.Test.YtkcbhbkldcebiaaXSym
namespace Go.Proofs.Ytkcbhbkldcebiaa
open Go.RowKit Go.Deep

theorem nx_to {s : ByteArray} {k : Nat} (_ : k ≤ s.size) (hz : (nx s k).word.kind ≠ 0) : k < (nx s k).to ∧ (nx s k).to ≤ s.size := by
  have h1 := runTo_ge blank s k
  unfold nx at hz ⊢
  split
  · rename_i h; rw [if_pos h] at hz; exact absurd rfl hz
  · rename_i h
    rw [if_neg h] at hz
    split
    · have h2 := endP_gt s (runTo blank s k)
      have h3 := endP_le (s := s) (b := runTo blank s k) (by omega)
      dsimp only
      omega
    · rename_i h2; rw [if_neg h2] at hz; exact absurd rfl hz
theorem look_ok {s : ByteArray} {k : Nat} {r : Nx} (h : lookP s k = .ok r) : nx s k = r := by
  unfold lookP at h
  split at h
  · cases h; rfl
  · cases h
theorem next_ok {s : ByteArray} {k : Nat} {r : Nx} (hk : k ≤ s.size) (h : nextP s k = .ok r) : k < r.to ∧ r.to ≤ s.size := by
  unfold nextP at h
  cases hl : lookP s k with
  | error e => rw [hl] at h; cases h
  | ok q =>
    rw [hl] at h
    dsimp only at h
    have hq := look_ok hl
    split at h
    · cases h
    · rename_i hz
      cases h
      rw [← hq] at hz ⊢
      exact nx_to hk hz
theorem pass_true {s : ByteArray} {k k1 : Nat} {kd : Int} (hk : k ≤ s.size) (hd : kd ≠ 0) (h : passP s k kd = .ok (true, k1)) : k < k1 ∧ k1 ≤ s.size := by
  unfold passP at h
  cases hl : lookP s k with
  | error e => rw [hl] at h; cases h
  | ok q =>
    rw [hl] at h
    dsimp only at h
    have hq := look_ok hl
    split at h
    · rename_i hz
      cases h
      rw [← hq] at hz ⊢
      exact nx_to hk (by rw [hz]; exact hd)
    · cases h
theorem pass_false {s : ByteArray} {k k1 : Nat} {kd : Int} (h : passP s k kd = .ok (false, k1)) : k1 = k := by
  unfold passP at h
  cases hl : lookP s k with
  | error e => rw [hl] at h; cases h
  | ok q =>
    rw [hl] at h
    dsimp only at h
    split at h
    · cases h
    · cases h; rfl
theorem want_ok {s : ByteArray} {k : Nat} {kd : Int} {r : Nx} (hk : k ≤ s.size) (h : wantP s k kd = .ok r) : k < r.to ∧ r.to ≤ s.size := by
  unfold wantP at h
  cases hl : nextP s k with
  | error e => rw [hl] at h; cases h
  | ok q =>
    rw [hl] at h
    dsimp only at h
    split at h
    · cases h; exact next_ok hk hl
    · cases h

/-- One round of reading, by what reads the parts. -/
def rd1 (s : ByteArray) (l : List Sym) (R : Bool → Nat → Except (Int × Nat) (Fo × Nat)) : Bool → Nat → Except (Int × Nat) (Fo × Nat)
  | false, k => match nextP s k with
    | .error e => .error e
    | .ok r =>
      if r.word.kind = 2 then .ok (.node 0 0 (r.word.text, 0) .nil .nil, r.to)
      else if r.word.kind = 1 then
        if findB l r.word.text then match passP s r.to 3 with
          | .error e => .error e
          | .ok (false, k1) => .ok (.node 0 0 (⟨#[]⟩, findI l r.word.text) .nil .nil, k1)
          | .ok (true, k1) => match R false k1 with
            | .error e => .error e
            | .ok (.nil, _) => .error (0, 0)
            | .ok (.node _ _ x m _, k2) => match R true k2 with
              | .error e => .error e
              | .ok (F, k3) => .ok (.node 0 0 (⟨#[]⟩, findI l r.word.text) (.node 0 0 x m F) .nil, k3)
        else .error (53, r.word.place)
      else .error (52, r.word.place)
  | true, k => match passP s k 5 with
    | .error e => .error e
    | .ok (true, k1) => match R false k1 with
      | .error e => .error e
      | .ok (.nil, _) => .error (0, 0)
      | .ok (.node _ _ x m _, k2) => match R true k2 with
        | .error e => .error e
        | .ok (F, k3) => .ok (.node 0 0 x m F, k3)
    | .ok (false, _) => match wantP s k 4 with
      | .error e => .error e
      | .ok r => .ok (.nil, r.to)
theorem rdF_succ (s : ByteArray) (l : List Sym) (f : Nat) (m : Bool) (k : Nat) : rdF s l (f + 1) m k = rd1 s l (rdF s l f) m k := by
  cases m <;> rfl

/-- Where reading ends. -/
theorem rd1_to {s : ByteArray} {l : List Sym} {R : Bool → Nat → Except (Int × Nat) (Fo × Nat)} {k0 : Nat} (hR : ∀ m k F k', k0 < k → k ≤ s.size → R m k = .ok (F, k') → k < k' ∧ k' ≤ s.size) {m : Bool} {F : Fo} {k' : Nat} (hk : k0 ≤ s.size) (h : rd1 s l R m k0 = .ok (F, k')) : k0 < k' ∧ k' ≤ s.size := by
  cases m with
  | false =>
    unfold rd1 at h
    dsimp only at h
    cases hn : nextP s k0 with
    | error e => rw [hn] at h; cases h
    | ok r =>
      rw [hn] at h
      dsimp only at h
      have h0 := next_ok hk hn
      split at h
      · cases h; exact h0
      · split at h
        · split at h
          · cases hp : passP s r.to 3 with
            | error e => rw [hp] at h; cases h
            | ok q =>
              obtain ⟨b, k1⟩ := q
              rw [hp] at h
              cases b with
              | false =>
                have := pass_false hp
                cases h
                omega
              | true =>
                have h1 := pass_true h0.2 (by decide) hp
                dsimp only at h
                cases hr : R false k1 with
                | error e => rw [hr] at h; cases h
                | ok q =>
                  obtain ⟨G, k2⟩ := q
                  have h2 := hR _ _ _ _ (by omega) h1.2 hr
                  rw [hr] at h
                  cases G with
                  | nil => cases h
                  | node _ _ x m' _ =>
                    dsimp only at h
                    cases ht : R true k2 with
                    | error e => rw [ht] at h; cases h
                    | ok q =>
                      obtain ⟨G2, k3⟩ := q
                      have h3 := hR _ _ _ _ (by omega) h2.2 ht
                      rw [ht] at h
                      cases h
                      omega
          · cases h
        · cases h
  | true =>
    unfold rd1 at h
    dsimp only at h
    cases hp : passP s k0 5 with
    | error e => rw [hp] at h; cases h
    | ok q =>
      obtain ⟨b, k1⟩ := q
      rw [hp] at h
      cases b with
      | false =>
        dsimp only at h
        cases hw : wantP s k0 4 with
        | error e => rw [hw] at h; cases h
        | ok r =>
          rw [hw] at h
          cases h
          exact want_ok hk hw
      | true =>
        have h1 := pass_true hk (by decide) hp
        dsimp only at h
        cases hr : R false k1 with
        | error e => rw [hr] at h; cases h
        | ok q =>
          obtain ⟨G, k2⟩ := q
          have h2 := hR _ _ _ _ h1.1 h1.2 hr
          rw [hr] at h
          cases G with
          | nil => cases h
          | node _ _ x m' _ =>
            dsimp only at h
            cases ht : R true k2 with
            | error e => rw [ht] at h; cases h
            | ok q =>
              obtain ⟨G2, k3⟩ := q
              have h3 := hR _ _ _ _ (by omega) h2.2 ht
              rw [ht] at h
              cases h
              omega
theorem rdF_to {s : ByteArray} {l : List Sym} : ∀ (f : Nat) (m : Bool) (k : Nat) (F : Fo) (k' : Nat), k ≤ s.size → rdF s l f m k = .ok (F, k') → k < k' ∧ k' ≤ s.size
  | 0, _, _, _, _, _, h => by cases h
  | f + 1, m, k, F, k', hk, h => by
    rw [rdF_succ] at h
    exact rd1_to (fun m k F k' _ hk h => rdF_to f m k F k' hk h) hk h

/-- Reading looks at nothing behind but by its parts, which begin further on. -/
theorem rd1_congr {s : ByteArray} {l : List Sym} {R R' : Bool → Nat → Except (Int × Nat) (Fo × Nat)} {k0 : Nat} (hk : k0 ≤ s.size) (hR : ∀ m k, k0 < k → k ≤ s.size → R m k = R' m k) (hT : ∀ m k F k', k0 < k → k ≤ s.size → R m k = .ok (F, k') → k < k' ∧ k' ≤ s.size) (m : Bool) : rd1 s l R m k0 = rd1 s l R' m k0 := by
  cases m with
  | false =>
    unfold rd1
    dsimp only
    cases hn : nextP s k0 with
    | error e => rfl
    | ok r =>
      have h0 := next_ok hk hn
      dsimp only
      split
      · rfl
      · split
        · split
          · cases hp : passP s r.to 3 with
            | error e => rfl
            | ok q =>
              obtain ⟨b, k1⟩ := q
              cases b with
              | false => rfl
              | true =>
                have h1 := pass_true h0.2 (by decide) hp
                dsimp only
                rw [← hR false k1 (by omega) h1.2]
                cases hr : R false k1 with
                | error e => rfl
                | ok q =>
                  obtain ⟨G, k2⟩ := q
                  have h2 := hT _ _ _ _ (by omega) h1.2 hr
                  cases G with
                  | nil => rfl
                  | node _ _ x m' _ =>
                    dsimp only
                    rw [hR true k2 (by omega) h2.2]
          · rfl
        · rfl
  | true =>
    unfold rd1
    dsimp only
    cases hp : passP s k0 5 with
    | error e => rfl
    | ok q =>
      obtain ⟨b, k1⟩ := q
      cases b with
      | false => rfl
      | true =>
        have h1 := pass_true hk (by decide) hp
        dsimp only
        rw [← hR false k1 h1.1 h1.2]
        cases hr : R false k1 with
        | error e => rfl
        | ok q =>
          obtain ⟨G, k2⟩ := q
          have h2 := hT _ _ _ _ h1.1 h1.2 hr
          cases G with
          | nil => rfl
          | node _ _ x m' _ =>
            dsimp only
            rw [hR true k2 (by omega) h2.2]
theorem rdF_fuel {s : ByteArray} {l : List Sym} : ∀ (f g : Nat) (m : Bool) (k : Nat), k ≤ s.size → s.size - k < f → s.size - k < g → rdF s l f m k = rdF s l g m k
  | 0, _, _, _, _, h, _ => by omega
  | _ + 1, 0, _, _, _, _, h => by omega
  | f + 1, g + 1, m, k, hk, hf, hg => by
    rw [rdF_succ, rdF_succ]
    exact rd1_congr hk (fun m k' h1 h2 => rdF_fuel f g m k' h2 (by omega) (by omega)) (fun m k' F k'' _ h2 h => rdF_to f m k' F k'' h2 h) m
/-- Reading from a place on. -/
def rdC (s : ByteArray) (l : List Sym) (m : Bool) (k : Nat) : Except (Int × Nat) (Fo × Nat) := rdF s l (s.size + 1) m k
theorem rdC_eq {s : ByteArray} {l : List Sym} {k : Nat} (hk : k ≤ s.size) (m : Bool) : rdC s l m k = rd1 s l (rdC s l) m k := by
  unfold rdC
  rw [rdF_succ]
  refine rd1_congr hk (fun m k' h1 h2 => ?_) (fun m k' F k'' _ h2 h => rdF_to _ m k' F k'' h2 h) m
  exact rdF_fuel _ _ m k' h2 (by omega) (by omega)
theorem rdC_to {s : ByteArray} {l : List Sym} {m : Bool} {k : Nat} {F : Fo} {k' : Nat} (hk : k ≤ s.size) (h : rdC s l m k = .ok (F, k')) : k < k' ∧ k' ≤ s.size := rdF_to _ m k F k' hk h
end Go.Proofs.Ytkcbhbkldcebiaa
