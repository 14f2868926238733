/- How often a vector can be taken out of another one: plainly; fits. -/
import Derived.Test.YtbdkogccjnmfoaaLiE
namespace Go.Proofs.Ytbdkogccjnmfoaa
open Go.RowKit Go.Shelf

def fitS (acc : Option Int) (n l : Int) : Option Int := if n = 0 then acc else match acc with
  | none => some (l / n)
  | some m => if l / n < m then some (l / n) else some m
def fitL : Option Int → List Int → List Int → Option Int
  | acc, n :: ns, l :: ls => fitL (fitS acc n l) ns ls
  | acc, _, _ => acc
/-- How often a vector fits. -/
def fitN (w left : List Int) : Int := (fitL none w left).getD 0
def takeN (k : Int) (w left : List Int) : List Int := List.zipWith (fun n l => l - k * n) w left
/-- How often each is taken, and what is left. -/
def exprA : List (List Int) → List Int → List Int × List Int
  | [], left => ([], left)
  | w :: ws, left => (fitN w left :: (exprA ws (takeN (fitN w left) w left)).1, (exprA ws (takeN (fitN w left) w left)).2)
/-- Numbers that may be. -/
def Cnt (l : List Int) : Prop := ∀ x ∈ l, 0 ≤ x ∧ x ≤ 1048576
theorem cnt_iff (l : List Int) : l.any badC = false ↔ Cnt l := by
  rw [List.any_eq_false]
  unfold Cnt badC
  constructor
  · intro h x hx
    have := h x hx
    simp at this
    omega
  · intro h x hx
    have := h x hx
    simp
    omega
theorem Cnt.get {l : List Int} (h : Cnt l) (i : Nat) (hi : i < l.length) : 0 ≤ l[i] ∧ l[i] ≤ 1048576 := h _ (List.getElem_mem hi)
theorem fitL_some (m : Int) : ∀ (w left : List Int), ∃ k, fitL (some m) w left = some k ∧ k ≤ m := by
  intro w
  induction w generalizing m with
  | nil => intro left; exact ⟨m, rfl, Int.le_refl _⟩
  | cons n ns ih =>
    intro left
    cases left with
    | nil => exact ⟨m, rfl, Int.le_refl _⟩
    | cons l ls =>
      rw [fitL]
      unfold fitS
      split
      · exact ih m ls
      · dsimp only
        split
        · obtain ⟨k, h1, h2⟩ := ih (l / n) ls
          exact ⟨k, h1, by omega⟩
        · exact ih m ls
/-- It is none, or it is from 0 on and fits everywhere. -/
theorem fitL_le : ∀ (w left : List Int) (acc : Option Int), Cnt w → Cnt left → (∀ m, acc = some m → 0 ≤ m) → ∀ k, fitL acc w left = some k → 0 ≤ k ∧ (∀ m, acc = some m → k ≤ m) ∧ ∀ i (h1 : i < w.length) (h2 : i < left.length), w[i] ≠ 0 → k ≤ left[i] / w[i] := by
  intro w
  induction w with
  | nil =>
    intro left acc _ _ ha k hk
    have : fitL acc [] left = acc := by cases left <;> rfl
    rw [this] at hk
    exact ⟨ha k hk, fun m hm => by rw [hk] at hm; injection hm with hm; omega, fun i h1 => absurd h1 (Nat.not_lt_zero i)⟩
  | cons n ns ih =>
    intro left acc hw hl ha k hk
    cases left with
    | nil =>
      rw [show fitL acc (n :: ns) [] = acc from rfl] at hk
      exact ⟨ha k hk, fun m hm => by rw [hk] at hm; injection hm with hm; omega, fun i _ h2 => absurd h2 (Nat.not_lt_zero i)⟩
    | cons l ls =>
      have hw' : Cnt ns := fun x hx => hw x (List.mem_cons_of_mem _ hx)
      have hl' : Cnt ls := fun x hx => hl x (List.mem_cons_of_mem _ hx)
      have hn0 := hw n List.mem_cons_self
      have hl0 := hl l List.mem_cons_self
      rw [fitL] at hk
      by_cases h0 : n = 0
      · rw [show fitS acc n l = acc by unfold fitS; rw [if_pos h0]] at hk
        obtain ⟨q1, q2, q3⟩ := ih ls acc hw' hl' ha k hk
        refine ⟨q1, q2, fun i h1 h2 hne => ?_⟩
        cases i with
        | zero => exact absurd h0 hne
        | succ i => exact q3 i (by simpa using h1) (by simpa using h2) hne
      · have hq : 0 ≤ l / n := Int.ediv_nonneg hl0.1 hn0.1
        obtain ⟨m', hm', hle, hacc⟩ : ∃ m', fitS acc n l = some m' ∧ m' ≤ l / n ∧ (∀ m, acc = some m → m' ≤ m) ∧ 0 ≤ m' := by
          unfold fitS
          rw [if_neg h0]
          cases acc with
          | none => exact ⟨l / n, rfl, Int.le_refl _, fun m hm => (by cases hm), hq⟩
          | some m =>
            dsimp only
            split
            · exact ⟨l / n, rfl, Int.le_refl _, fun m' hm => by injection hm with hm; omega, hq⟩
            · exact ⟨m, rfl, by omega, fun m' hm => by injection hm with hm; omega, ha m rfl⟩
        rw [hm'] at hk
        obtain ⟨q1, q2, q3⟩ := ih ls (some m') hw' hl' (fun m hm => by injection hm with hm; have := hacc.2; omega) k hk
        have q4 := q2 m' rfl
        refine ⟨q1, fun m hm => by have := hacc.1 m hm; omega, fun i h1 h2 hne => ?_⟩
        cases i with
        | zero => show k ≤ l / n; omega
        | succ i => exact q3 i (by simpa using h1) (by simpa using h2) hne
theorem fit_ok {w left : List Int} (hw : Cnt w) (hl : Cnt left) : 0 ≤ fitN w left ∧ fitN w left ≤ 1048576 ∧ ∀ i (h1 : i < w.length) (h2 : i < left.length), fitN w left * w[i] ≤ left[i] := by
  unfold fitN
  cases hk : fitL none w left with
  | none =>
    refine ⟨Int.le_refl _, by decide, fun i h1 h2 => ?_⟩
    have := (hl.get i h2).1
    simp
    exact this
  | some k =>
    obtain ⟨q1, _, q3⟩ := fitL_le w left none hw hl (fun m hm => by cases hm) k hk
    have key : ∀ i (h1 : i < w.length) (h2 : i < left.length), k * w[i] ≤ left[i] := fun i h1 h2 => by
      by_cases h0 : w[i] = 0
      · rw [h0, Int.mul_zero]; exact (hl.get i h2).1
      · have h3 := q3 i h1 h2 h0
        have h4 : 0 < w[i] := by have := (hw.get i h1).1; omega
        exact Int.le_trans (Int.mul_le_mul_of_nonneg_right h3 (Int.le_of_lt h4)) (Int.ediv_mul_le _ h0)
    refine ⟨q1, ?_, key⟩
    -- some place has a number above 0
    have ex : ∀ (w left : List Int) (k : Int), fitL none w left = some k → ∃ i, ∃ (h1 : i < w.length) (h2 : i < left.length), w[i] ≠ 0 := by
      intro w
      induction w with
      | nil => intro left k h; cases left <;> cases h
      | cons n ns ih =>
        intro left k h
        cases left with
        | nil => cases h
        | cons l ls =>
          by_cases h0 : n = 0
          · rw [fitL, show fitS none n l = none by unfold fitS; rw [if_pos h0]] at h
            obtain ⟨i, h1, h2, h3⟩ := ih ls k h
            exact ⟨i + 1, by simpa using h1, by simpa using h2, h3⟩
          · exact ⟨0, by simp, by simp, h0⟩
    obtain ⟨i, h1, h2, h3⟩ := ex w left k hk
    have h4 := q3 i h1 h2 h3
    have h5 := hl.get i h2
    have h6 := Int.ediv_le_self (a := left[i]) (w[i]) h5.1
    show k ≤ 1048576
    omega
theorem take_len (k : Int) (w left : List Int) (h : w.length = left.length) : (takeN k w left).length = left.length := by unfold takeN; rw [List.length_zipWith, h, Nat.min_self]
theorem take_get (k : Int) (w left : List Int) (i : Nat) (h1 : i < w.length) (h2 : i < left.length) (h3 : i < (takeN k w left).length) : (takeN k w left)[i] = left[i] - k * w[i] := by
  simp [takeN]
theorem take_cnt {w left : List Int} (hw : Cnt w) (hl : Cnt left) (hlen : w.length = left.length) : Cnt (takeN (fitN w left) w left) := by
  obtain ⟨q1, q2, q3⟩ := fit_ok hw hl
  intro x hx
  obtain ⟨i, hi, rfl⟩ := List.getElem_of_mem hx
  have hi' : i < left.length := by rw [take_len _ _ _ hlen] at hi; exact hi
  rw [take_get _ _ _ i (by omega) hi']
  have h1 := q3 i (by omega) hi'
  have h2 := hl.get i hi'
  have h3 := Int.mul_nonneg q1 (hw.get i (by omega)).1
  omega
set_option maxRecDepth 100000 in
set_option maxHeartbeats 4000000 in
theorem fits_any (p : Option Addr) (c : Nat) (ws : List Int) (q : Option Addr) (d : Nat) (left : List Int) (w : World) (hW : IntsAt w p ws) (hL : IntsAt w q left) (cw : Cnt ws) (cl : Cnt left) (hlen : ws.length = left.length) :
    Calls Try.prog 33 #[.slice p ws.length c, .slice q left.length d] w fun e w' => e = .returned (.int .i64 (fitN ws left)) ∧ w' = w := by
  have HW := hid hW; have HL := hid hL
  have hmax : maxLen = 9223372036854775807 := rfl
  have hs1 := hW.small; have hs2 := hL.small
  obtain ⟨R, hR⟩ : ∃ R, fitL none ws left = R := ⟨_, rfl⟩
  have HR : Hid (fitN ws left = R.getD 0) := hid (by unfold fitN; rw [hR])
  have HR0 := hid hR
  have HLEN := hid hlen; have HCW := hid cw; have HCL := hid cl
  clear hW hL hR hlen cw cl
  go_enter Try.func33, Try.ntmps33
  go_wp2_with fail
  go_loopw [5, 6, 12] (fun o cn i wr => ∃ (j : Nat) (acc : Option Int), j ≤ ws.length ∧ i = .int .i64 j ∧ o = .int .i64 (acc.getD 0) ∧ cn = .bool acc.isSome ∧ fitL acc (ws.drop j) (left.drop j) = R ∧ wr = w) (fun _ _ i _ => ws.length - (intOf i).toNat)
  case atStart => exact ⟨0, none, Nat.zero_le _, rfl, rfl, rfl, HR0.out, rfl⟩
  case round =>
    obtain ⟨j, acc, hj, rfl, rfl, rfl, hf, rfl⟩ := hrel
    by_cases hlt : j < ws.length
    · have hlt2 : j < left.length := by rw [← HLEN.out]; exact hlt
      obtain ⟨b, o, rfl, hc⟩ := HW.out.cells j hlt
      obtain ⟨b2, o2, rfl, hc2⟩ := HL.out.cells j hlt2
      rw [List.drop_eq_getElem_cons hlt, List.drop_eq_getElem_cons hlt2, fitL] at hf
      have g1 := HCW.out.get j hlt
      have g2 := HCL.out.get j hlt2
      obtain ⟨n, hn⟩ : ∃ n, ws[j] = n := ⟨_, rfl⟩
      obtain ⟨l, hl⟩ : ∃ l, left[j] = l := ⟨_, rfl⟩
      rw [hn, hl] at hf
      rw [hn] at hc g1
      rw [hl] at hc2 g2
      clear hn hl
      by_cases h0 : n = 0
      · rw [show fitS acc n l = acc by unfold fitS; rw [if_pos h0]] at hf
        subst h0
        have HF := hid hf
        clear hf
        go_wp2_with fail
        go_roundw
        case rel => exact ⟨j + 1, acc, by omega, by go_num, rfl, rfl, HF.out, trivial⟩
        case measure => simp [intOf]; omega
      · have h0' : (n == 0) = false := by simpa using h0
        have hq0 : 0 ≤ l / n := Int.ediv_nonneg g2.1 g1.1
        have hq1 := Int.ediv_le_self (a := l) n g2.1
        have e1 : IntKind.i64.wrap (l.tdiv n) = l / n := by rw [Int.tdiv_eq_ediv_of_nonneg g2.1]; exact IntWalk.i64_in _ (by constructor <;> omega)
        have e2 : l.tdiv n = l / n := Int.tdiv_eq_ediv_of_nonneg g2.1
        obtain ⟨z, hz⟩ : ∃ z, l / n = z := ⟨_, rfl⟩
        rw [hz] at e1 e2 hq0 hq1
        have hn1 : fitS none n l = some z := by unfold fitS; rw [if_neg h0, hz]
        have hn2 : ∀ m, fitS (some m) n l = if z < m then some z else some m := fun m => by unfold fitS; rw [if_neg h0, hz]
        clear hz
        cases acc with
        | none =>
          rw [hn1] at hf
          have HF := hid hf
          clear hf hn1 hn2
          go_wp2_with fail
          go_roundw
          case rel => exact ⟨j + 1, some z, by omega, by go_num, rfl, rfl, HF.out, trivial⟩
          case measure => simp [intOf]; omega
        | some m =>
          rw [hn2] at hf
          simp only [Option.getD_some, Option.isSome_some]
          by_cases hzm : z < m
          · rw [if_pos hzm] at hf
            have HF := hid hf
            clear hf hn1 hn2
            go_wp2_with fail
            go_roundw
            case rel => exact ⟨j + 1, some z, by omega, by go_num, rfl, rfl, HF.out, trivial⟩
            case measure => simp [intOf]; omega
          · rw [if_neg hzm] at hf
            have HF := hid hf
            clear hf hn1 hn2
            go_wp2_with fail
            go_roundw
            case rel => exact ⟨j + 1, some m, by omega, by go_num, rfl, rfl, HF.out, trivial⟩
            case measure => simp [intOf]; omega
    · have e1 : j = ws.length := by omega
      rw [List.drop_eq_nil_of_le (by omega : ws.length ≤ j), show fitL acc [] (left.drop j) = acc by cases left.drop j <;> rfl] at hf
      have HF : Hid (fitN ws left = acc.getD 0) := hid (by rw [HR.out, hf])
      clear hf
      go_wp2_with fail
      go_ret
      exact ⟨by rw [HF.out]; rfl, rfl⟩
end Go.Proofs.Ytbdkogccjnmfoaa
