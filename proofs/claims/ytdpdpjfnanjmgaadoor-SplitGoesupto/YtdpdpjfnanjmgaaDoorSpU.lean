/- The document's adds. -/
import Derived.Test.YtdpdpjfnanjmgaaDoorSpH
namespace Go.Proofs.YtdpdpjfnanjmgaaDoor
open Go.RowKit Go.Shelf

/-- A sum of these numbers, each as often as you like. -/
inductive Adds (k : List Nat) : Nat → Prop
  | zero : Adds k 0
  | step {x n : Nat} : x ∈ k → Adds k n → Adds k (x + n)
theorem adds_iff {k : List Nat} {n : Nat} (h : 0 < n) : Adds k n ↔ ∃ x ∈ k, x ≤ n ∧ Adds k (n - x) := by
  constructor
  · intro h1
    cases h1 with
    | zero => omega
    | @step x m hx hm => exact ⟨x, hx, by omega, by rw [Nat.add_sub_cancel_left]; exact hm⟩
  · rintro ⟨x, hx, hl, hm⟩
    have := Adds.step hx hm
    rwa [Nat.add_sub_cancel' hl] at this
/-- What a row of multiples adds up to, is a sum. -/
theorem adds_sum {k : List Nat} : ∀ (c : Nat) {x n : Nat}, x ∈ k → Adds k n → Adds k (x * c + n)
  | 0, x, n, _, h => by simpa using h
  | c + 1, x, n, hx, h => by
    have := Adds.step hx (adds_sum c hx h)
    rwa [← Nat.add_assoc, Nat.add_comm x, ← Nat.mul_succ] at this
theorem getD_in {k : List Nat} {j : Nat} (h : j < k.length) : k.getD j 0 = k[j] := by rw [List.getD_eq_getElem?_getD, List.getElem?_eq_getElem h]; rfl
theorem mem_take_succ {k : List Nat} {j y : Nat} (h : j < k.length) (hy : y ∈ k.take (j + 1)) : y ∈ k.take j ∨ y = k.getD j 0 := by
  rw [List.take_succ_eq_append_getElem h, List.mem_append] at hy
  rcases hy with hy | hy
  · exact .inl hy
  · rw [getD_in h]; exact .inr (List.mem_singleton.1 hy)
set_option maxRecDepth 100000 in
set_option maxHeartbeats 2000000 in
theorem adds_any (b : Option Addr) (d : Nat) (k : List Nat) (w : World) (hK : IntsAt w b (up k)) (hk : ∀ x ∈ k, 1 ≤ x) : ∀ (f n : Nat), n ≤ f → f ≤ 1000 →
    Calls Tryd.prog 35 #[.int .i64 n, .slice b k.length d] w fun e w' => ∃ r : Bool, (e = .returned (.bool r) ∧ w' = w) ∧ (r = true ↔ Adds k n) := by
  intro f
  induction f with
  | zero =>
    intro n hn hf
    have e0 : n = 0 := by omega
    subst e0
    go_enter Tryd.func35, Tryd.ntmps35
    go_wp2_with fail
    go_ret
    exact ⟨true, ⟨rfl, rfl⟩, by simp [Adds.zero]⟩
  | succ f ih =>
    intro n hn hf
    by_cases h0 : n = 0
    · subst h0
      clear ih
      go_enter Tryd.func35, Tryd.ntmps35
      go_wp2_with fail
      go_ret
      exact ⟨true, ⟨rfl, rfl⟩, by simp [Adds.zero]⟩
    · have hne : ((n : Int) == 0) = false := by simp; omega
      have HIH := hid ih
      have HN := hid (show n ≤ 1000 by omega); have HF := hid hf; have HNF := hid hn
      have hs : k.length ≤ maxLen := by have := hK.small; rwa [up_len] at this
      have hmax : maxLen = 9223372036854775807 := rfl
      have HK := hid hK; have HP := hid hk; have HA := hid (adds_iff (k := k) (show 0 < n by omega))
      have H0 := hid h0
      clear ih hK hk hn hf h0
      go_enter Tryd.func35, Tryd.ntmps35
      go_wp2_with fail
      go_loopw [5] (fun i wr => ∃ j : Nat, j ≤ k.length ∧ i = .int .i64 j ∧ wr = w ∧ ∀ y ∈ k.take j, y ≤ n → ¬ Adds k (n - y)) (fun i _ => k.length - (intOf i).toNat)
      case atStart => exact ⟨0, Nat.zero_le _, rfl, rfl, fun y hy => absurd hy (by simp)⟩
      case round =>
        obtain ⟨j, hj, rfl, rfl, hm⟩ := hrel
        by_cases hlt : j < k.length
        · obtain ⟨p, o, rfl, hc⟩ := HK.out.cells j (by rw [up_len]; exact hlt)
          rw [up_at hlt] at hc
          have hx : k.getD j 0 ∈ k := by rw [getD_in hlt]; exact List.getElem_mem hlt
          have HT : Hid (∀ y ∈ k.take (j + 1), y ∈ k.take j ∨ y = k.getD j 0) := hid fun y hy => mem_take_succ hlt hy
          obtain ⟨x, hxe⟩ : ∃ x, k.getD j 0 = x := ⟨_, rfl⟩
          rw [hxe] at hc hx HT
          have HX := hid hx; have HM := hid hm
          have hx1 := HP.out x hx
          clear hm hx hxe
          by_cases hle : x ≤ n
          · obtain ⟨q, hq⟩ : ∃ q, n - x = q := ⟨_, rfl⟩
            have hq2 : (n : Int) - (x : Int) = (q : Int) := by omega
            have hxi : (x : Int) ≤ (n : Int) := by omega
            have HR := hid (HIH.out q (by have := HNF.out; omega) (by have := HF.out; omega))
            have HQ := hid hq; have HLE := hid hle
            have := HN.out
            clear hq hle
            go_wp2_with fail
            first | rw [hq2] | skip
            refine HR.out.mono ?_
            rintro e w1 ⟨r, ⟨rfl, rfl⟩, hr⟩
            have HRR := hid hr
            clear hr
            cases r with
            | true =>
              go_wp2_with fail
              go_ret
              exact ⟨true, ⟨rfl, rfl⟩, by
                simp only [true_iff]
                exact HA.out.2 ⟨x, HX.out, HLE.out, by rw [HQ.out]; exact HRR.out.1 trivial⟩⟩
            | false =>
              go_wp2_with fail
              go_roundw
              case rel =>
                refine ⟨j + 1, by omega, by go_num, trivial, fun y hy hl => ?_⟩
                rcases HT.out y hy with h | rfl
                · exact HM.out y h hl
                · rw [HQ.out]; exact fun ha => by have := HRR.out.2 ha; cases this
              case measure => simp [intOf]; omega
          · have hxi : ¬ (x : Int) ≤ (n : Int) := by omega
            have HLE := hid hle
            have := HN.out
            clear hle
            go_wp2_with fail
            go_roundw
            case rel =>
              refine ⟨j + 1, by omega, by go_num, trivial, fun y hy hl => ?_⟩
              rcases HT.out y hy with h | rfl
              · exact HM.out y h hl
              · exact absurd hl HLE.out
            case measure => simp [intOf]; omega
        · have e1 : j = k.length := by omega
          rw [e1, List.take_length] at hm
          have HM := hid hm
          clear hm
          go_wp2_with fail
          go_ret
          exact ⟨false, ⟨rfl, rfl⟩, by
            simp only [Bool.false_eq_true, false_iff]
            intro ha
            obtain ⟨y, hy, hl, h⟩ := HA.out.1 ha
            exact HM.out y hy hl h⟩
end Go.Proofs.YtdpdpjfnanjmgaaDoor
