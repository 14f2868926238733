/- What the program's check answers. -/
import Derived.Test.YtppgmepmegelbaaGreatDoorReB
namespace Go.Proofs.YtppgmepmegelbaaGreatDoor
open Go.RowKit Go.Deep

theorem alloc_below0 (W : World) (o : Obj) : Below W.heap.size W (W.alloc o) := (Below.refl _ W).alloc (Nat.le_refl _) o
/-- How often the rows have an unknown together. -/
def totN (rs : List (List Int)) (k : Nat) : Int := (rs.map fun r => r.getD k 0).sum
def totE (rs : List (List Int)) : Nat → Nat → Int
  | _, 0 => 0
  | i, m + 1 => if totN rs i = 0 then 142 else if 400 ≤ totN rs i then 2 else totE rs (i + 1) m
/-- What may not be. -/
def eqE (l : List Sym) (f : Int) (u : Nat) (rs : List (List Int)) (fr : Int) : Int :=
  if sumB l f = false then 121 else if badC fr = true then 1 else if 16 < rs.length ∨ rs.any (badR u) = true then 141 else totE rs 0 u
theorem totE_ok {rs : List (List Int)} : ∀ (m i : Nat), totE rs i m = 0 → ∀ k, i ≤ k → k < i + m → 1 ≤ totN rs k ∨ totN rs k < 0 → totN rs k ≠ 0 ∧ totN rs k < 400
  | 0, i, _, k, h1, h2, _ => by omega
  | m + 1, i, h, k, h1, h2, hx => by
    unfold totE at h
    by_cases e1 : totN rs i = 0
    · rw [if_pos e1] at h; cases h
    · rw [if_neg e1] at h
      by_cases e2 : 400 ≤ totN rs i
      · rw [if_pos e2] at h; cases h
      · rw [if_neg e2] at h
        by_cases hk : k = i
        · subst hk; exact ⟨e1, by omega⟩
        · exact totE_ok m (i + 1) h k (by omega) (by omega) hx
theorem rows_good {u : Nat} {rs : List (List Int)} (h : rs.any (badR u) = false) : ∀ r ∈ rs, r.length = u ∧ ∀ n ∈ r, 0 ≤ n ∧ n ≤ 1048576 := by
  intro r hr
  have h1 := List.any_eq_false.1 h r hr
  unfold badR at h1
  simp only [Bool.or_eq_true, decide_eq_true_eq, not_or] at h1
  refine ⟨Classical.byContradiction h1.1, fun n hn => ?_⟩
  have h2 : r.any badC = false := by simpa using h1.2
  have h3 := List.any_eq_false.1 h2 n hn
  unfold badC at h3
  simp only [Bool.or_eq_true, decide_eq_true_eq, not_or] at h3
  omega
set_option maxRecDepth 100000 in
set_option maxHeartbeats 2000000 in
theorem check_any (S : Option Addr) (n cap : Nat) (l : List Sym) (f : Int) (u : Nat) (a : Option Addr) (c : Nat) (rs : List (List Int)) (fr : Int) (w : World) (hS : SigAt w S n l) (hN : RowsZ w a rs) (hu : u ≤ 1048576) :
    Calls Tryz.prog 16 #[.slice S n cap, .int .i64 f, .int .i64 u, .slice a rs.length c, .int .i64 fr] w fun e w' => e = .returned (.int .i64 (eqE l f u rs fr)) ∧ Below w.heap.size w w' := by
  have b0 := alloc_below0 w (.cells #[.int .i64 u] 3)
  have HB := hid (Box.new w 3 #[.int .i64 u])
  have HI := hid (isSum_any S n cap l f _ (hS.below b0))
  have HF := hid (notCount_any fr (w.alloc (.cells #[.int .i64 u] 3)))
  have HR := hid (containsR_any u w.heap.size a c rs _ HB.out (hN.below b0))
  have HN := hid (hN.below b0)
  have HL := hid b0
  have hsm := hN.small
  have hmax : maxLen = 9223372036854775807 := rfl
  have c0 := HB.out.c 0
  obtain ⟨R, hRR⟩ : ∃ R, eqE l f u rs fr = R := ⟨_, rfl⟩
  rw [hRR]
  unfold eqE at hRR
  clear hS hN b0
  cases h1 : sumB l f with
  | false =>
    rw [h1, if_pos rfl] at hRR
    subst hRR
    rw [h1] at HI
    go_enter Tryz.func16, Tryz.ntmps16
    go_wp2_with (go_at_call 40; refine HI.out.mono ?_; rintro e w1 ⟨rfl, rfl⟩)
    go_ret
    exact ⟨rfl, HL.out⟩
  | true =>
  rw [h1, if_neg (by decide)] at hRR
  rw [h1] at HI
  cases h2 : badC fr with
  | true =>
    rw [h2, if_pos rfl] at hRR
    subst hRR
    rw [h2] at HF
    go_enter Tryz.func16, Tryz.ntmps16
    go_wp2_with (first
      | (go_at_call 40; refine HI.out.mono ?_; rintro e w1 ⟨rfl, h0⟩; have h9 := h0.symm; subst h9)
      | (go_at_call 39; refine HF.out.mono ?_; rintro e w1 ⟨rfl, h0⟩; have h9 := h0.symm; subst h9))
    go_ret
    exact ⟨rfl, HL.out⟩
  | false =>
  rw [h2, if_neg (by decide)] at hRR
  rw [h2] at HF
  by_cases h3 : 16 < rs.length
  · rw [if_pos (.inl h3)] at hRR
    subst hRR
    have h3' : (16 : Int) < (rs.length : Int) := by omega
    go_enter Tryz.func16, Tryz.ntmps16
    go_wp2_with (first
      | (go_at_call 40; refine HI.out.mono ?_; rintro e w1 ⟨rfl, h0⟩; have h9 := h0.symm; subst h9)
      | (go_at_call 39; refine HF.out.mono ?_; rintro e w1 ⟨rfl, h0⟩; have h9 := h0.symm; subst h9))
    go_ret
    exact ⟨rfl, HL.out⟩
  have h3' : ¬ (16 : Int) < (rs.length : Int) := by omega
  cases h4 : rs.any (badR u) with
  | true =>
    rw [h4, if_pos (.inr rfl)] at hRR
    subst hRR
    rw [h4] at HR
    go_enter Tryz.func16, Tryz.ntmps16
    go_wp2_with (first
      | (go_at_call 40; refine HI.out.mono ?_; rintro e w1 ⟨rfl, h0⟩; have h9 := h0.symm; subst h9)
      | (go_at_call 39; refine HF.out.mono ?_; rintro e w1 ⟨rfl, h0⟩; have h9 := h0.symm; subst h9)
      | (go_at_call 41; refine HR.out.mono ?_; rintro e w1 ⟨rfl, h0⟩; have h9 := h0.symm; subst h9))
    go_ret
    exact ⟨rfl, HL.out⟩
  | false =>
  rw [h4, if_neg (by simp; omega)] at hRR
  rw [h4] at HR
  have HG := hid (rows_good h4)
  have hrl : rs.length ≤ 16 := by omega
  have HT := hid fun (k : Nat) (hk : k < u) => total_any a c rs k (w.alloc (.cells #[.int .i64 u] 3)) HN.out (fun r hr => by rw [(HG.out r hr).1]; exact hk) hrl (fun r hr => (HG.out r hr).2)
  clear h1 h2 h4
  have HRR := hid hRR
  clear hRR
  go_enter Tryz.func16, Tryz.ntmps16
  go_wp2_with (first
    | (go_at_call 40; refine HI.out.mono ?_; rintro e w1 ⟨rfl, h0⟩; have h9 := h0.symm; subst h9)
    | (go_at_call 39; refine HF.out.mono ?_; rintro e w1 ⟨rfl, h0⟩; have h9 := h0.symm; subst h9)
    | (go_at_call 41; refine HR.out.mono ?_; rintro e w1 ⟨rfl, h0⟩; have h9 := h0.symm; subst h9))
  clear HI HF HR c0
  generalize w.alloc (.cells #[.int .i64 u] 3) = V at HT HL HB HN ⊢
  go_loopw [33] (fun iv wr => ∃ i : Nat, i ≤ u ∧ iv = .int .i64 i ∧ totE rs i (u - i) = R ∧ wr = V) (fun iv _ => u - (intOf iv).toNat)
  case atStart => exact ⟨0, Nat.zero_le _, rfl, HRR.out, rfl⟩
  case round =>
    obtain ⟨i, hi, rfl, hE, rfl⟩ := hrel
    by_cases hlt : i < u
    · obtain ⟨m, hm⟩ : ∃ m, u - i = m + 1 := ⟨u - i - 1, by omega⟩
      rw [hm] at hE
      unfold totE at hE
      have HTI := hid (HT.out i hlt)
      obtain ⟨T, hT⟩ : ∃ T, totN rs i = T := ⟨_, rfl⟩
      have hTs : (rs.map fun r => r.getD i 0).sum = T := hT
      rw [hT] at hE
      rw [hTs] at HTI
      clear hT hTs
      by_cases h5 : T = 0
      · rw [if_pos h5] at hE
        subst h5
        subst hE
        go_wp2_with (go_at_call 42; refine HTI.out.mono ?_; rintro e w1 ⟨rfl, h0⟩; have h9 := h0.symm; subst h9)
        go_ret
        exact ⟨rfl, HL.out⟩
      · rw [if_neg h5] at hE
        by_cases h6 : 400 ≤ T
        · rw [if_pos h6] at hE
          subst hE
          go_wp2_with (go_at_call 42; refine HTI.out.mono ?_; rintro e w1 ⟨rfl, h0⟩; have h9 := h0.symm; subst h9)
          go_ret
          exact ⟨rfl, HL.out⟩
        · rw [if_neg h6] at hE
          have HE := hid hE
          have hm2 : m = u - (i + 1) := by omega
          have HM := hid hm2
          clear hE hm hm2
          go_wp2_with (go_at_call 42; refine HTI.out.mono ?_; rintro e w1 ⟨rfl, h0⟩; have h9 := h0.symm; subst h9)
          go_roundw
          case rel => exact ⟨i + 1, by omega, by go_num, by rw [← HM.out]; exact HE.out, trivial⟩
          case measure => simp [intOf]; omega
    · have e1 : u - i = 0 := by omega
      rw [e1] at hE
      have hE2 : R = 0 := hE.symm
      subst hE2
      clear e1 hE
      go_wp2_with fail
      go_ret
      exact ⟨rfl, HL.out⟩
end Go.Proofs.YtppgmepmegelbaaGreatDoor
