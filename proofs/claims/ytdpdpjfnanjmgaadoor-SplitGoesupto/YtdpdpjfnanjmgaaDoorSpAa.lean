/- The document's Check. -/
import Derived.Test.YtdpdpjfnanjmgaaDoorSpU
namespace Go.Proofs.YtdpdpjfnanjmgaaDoor
open Go.RowKit Go.Shelf

set_option maxRecDepth 100000 in
set_option maxHeartbeats 4000000 in
theorem rchk_any (a b : Option Addr) (c d : Nat) (m k : List Int) (w : World) (hM : IntsAt w a m) (hK : IntsAt w b k) :
    Calls Tryd.prog 14 #[.slice a m.length c, .slice b k.length d] w fun e w' => e = .returned (.int .i64 (chkE m k)) ∧ w' = w := by
  have HM := hid hM; have HK := hid hK
  have hmax : maxLen = 9223372036854775807 := rfl
  have hs1 := hM.small; have hs2 := hK.small
  clear hM hK
  unfold chkE
  by_cases g1 : 5 < m.length
  · rw [if_pos (.inl g1)]
    go_enter Tryd.func14, Tryd.ntmps14
    go_wp2_with fail
    go_ret
    exact ⟨rfl, rfl⟩
  · by_cases g2 : 5 < k.length
    · rw [if_pos (.inr g2)]
      go_enter Tryd.func14, Tryd.ntmps14
      go_wp2_with fail
      go_ret
      exact ⟨rfl, rfl⟩
    · rw [if_neg (by omega)]
      obtain ⟨R, hR⟩ : ∃ R : Int, (if (m.any badC || k.any badO) = true then (191 : Int) else 0) = R := ⟨_, rfl⟩
      rw [hR]
      have HR := hid hR
      clear hR
      go_enter Tryd.func14, Tryd.ntmps14
      go_wp2_with fail
      go_loopw [5] (fun i wr => ∃ j : Nat, j ≤ m.length ∧ i = .int .i64 j ∧ wr = w ∧ (m.drop j).any badC = m.any badC) (fun i _ => m.length - (intOf i).toNat)
      case atStart => exact ⟨0, Nat.zero_le _, rfl, rfl, rfl⟩
      case round =>
        obtain ⟨j, hj, rfl, rfl, hm⟩ := hrel
        by_cases hlt : j < m.length
        · obtain ⟨p, o, rfl, hc⟩ := HM.out.cells j hlt
          rw [List.drop_eq_getElem_cons hlt, List.any_cons] at hm
          obtain ⟨x, hx⟩ : ∃ x, m[j] = x := ⟨_, rfl⟩
          rw [hx] at hm hc
          have HMM := hid hm
          clear hm hx
          by_cases hx0 : x < 0
          · have HB : Hid (R = 191) := hid (by
              have h1 : badC x = true := by simp [badC]; omega
              have h2 : m.any badC = true := by rw [← HMM.out, h1, Bool.true_or]
              rw [← HR.out, h2]; rfl)
            go_wp2_with fail
            go_ret
            exact ⟨by rw [HB.out]; rfl, rfl⟩
          · by_cases hx6 : 6 < x
            · have HB : Hid (R = 191) := hid (by
                have h1 : badC x = true := by simp [badC]; omega
                have h2 : m.any badC = true := by rw [← HMM.out, h1, Bool.true_or]
                rw [← HR.out, h2]; rfl)
              go_wp2_with fail
              go_ret
              exact ⟨by rw [HB.out]; rfl, rfl⟩
            · have HT : Hid ((m.drop (j + 1)).any badC = m.any badC) := hid (by
                have h1 : badC x = false := by simp [badC]; omega
                have := HMM.out
                rwa [h1, Bool.false_or] at this)
              go_wp2_with fail
              go_roundw
              case rel => exact ⟨j + 1, by omega, by go_num, trivial, HT.out⟩
              case measure => simp [intOf]; omega
        · have e1 : j = m.length := by omega
          rw [e1, List.drop_length, List.any_nil] at hm
          have HR2 : Hid ((if k.any badO = true then (191 : Int) else 0) = R) := hid (by have := HR.out; rwa [← hm, Bool.false_or] at this)
          clear hm
          go_wp2_with fail
          go_loopw [6] (fun i w2 => ∃ j : Nat, j ≤ k.length ∧ i = .int .i64 j ∧ w2 = wr ∧ (k.drop j).any badO = k.any badO) (fun i _ => k.length - (intOf i).toNat)
          case atStart => exact ⟨0, Nat.zero_le _, rfl, rfl, rfl⟩
          case round =>
            obtain ⟨j, hj, rfl, rfl, hm⟩ := hrel
            by_cases hlt : j < k.length
            · obtain ⟨p, o, rfl, hc⟩ := HK.out.cells j hlt
              rw [List.drop_eq_getElem_cons hlt, List.any_cons] at hm
              obtain ⟨x, hx⟩ : ∃ x, k[j] = x := ⟨_, rfl⟩
              rw [hx] at hm hc
              have HMM := hid hm
              clear hm hx
              by_cases hx0 : x < 1
              · have HB : Hid (R = 191) := hid (by
                  have h1 : badO x = true := by simp [badO]; omega
                  have h2 : k.any badO = true := by rw [← HMM.out, h1, Bool.true_or]
                  rw [← HR2.out, h2]; rfl)
                go_wp2_with fail
                go_ret
                exact ⟨by rw [HB.out]; rfl, rfl⟩
              · by_cases hx6 : 6 < x
                · have HB : Hid (R = 191) := hid (by
                    have h1 : badO x = true := by simp [badO]; omega
                    have h2 : k.any badO = true := by rw [← HMM.out, h1, Bool.true_or]
                    rw [← HR2.out, h2]; rfl)
                  go_wp2_with fail
                  go_ret
                  exact ⟨by rw [HB.out]; rfl, rfl⟩
                · have HT : Hid ((k.drop (j + 1)).any badO = k.any badO) := hid (by
                    have h1 : badO x = false := by simp [badO]; omega
                    have := HMM.out
                    rwa [h1, Bool.false_or] at this)
                  go_wp2_with fail
                  go_roundw
                  case rel => exact ⟨j + 1, by omega, by go_num, trivial, HT.out⟩
                  case measure => simp [intOf]; omega
            · have e1 : j = k.length := by omega
              rw [e1, List.drop_length, List.any_nil] at hm
              have HB : Hid (R = 0) := hid (by rw [← HR2.out, ← hm]; rfl)
              clear hm
              go_wp2_with fail
              go_ret
              exact ⟨by rw [HB.out]; rfl, rfl⟩
end Go.Proofs.YtdpdpjfnanjmgaaDoor
