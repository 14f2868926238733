/- Same, the document's of rows of numbers. -/
import Derived.Test.YtdpdpjfnanjmgaaDoorSpE
namespace Go.Proofs.YtdpdpjfnanjmgaaDoor
open Go.RowKit Go.Shelf

/-- Are the rows' first numbers the same? -/
theorem take_succ_eq {a b : List Int} {i : Nat} (h1 : i < a.length) (h2 : i < b.length) (h : a.take i = b.take i) : (a.take (i + 1) = b.take (i + 1)) ↔ a[i] = b[i] := by
  rw [List.take_succ_eq_append_getElem h1, List.take_succ_eq_append_getElem h2, h]
  exact ⟨fun e => by simpa using List.append_cancel_left e, fun e => by rw [e]⟩
set_option maxRecDepth 100000 in
set_option maxHeartbeats 1000000 in
theorem sameI_any (a b : Option Addr) (c d : Nat) (m k : List Int) (w : World) (hM : IntsAt w a m) (hK : IntsAt w b k) :
    Calls Tryd.prog 13 #[.slice a m.length c, .slice b k.length d] w fun e w' => e = .returned (.bool (decide (m = k))) ∧ Below w.heap.size w w' := by
  have HM := hid hM; have HK := hid hK
  have hmax : maxLen = 9223372036854775807 := rfl
  have hs1 := hM.small; have hs2 := hK.small
  clear hM hK
  by_cases hl : m.length = k.length
  · obtain ⟨n, hn⟩ : ∃ n, k.length = n := ⟨_, rfl⟩
    have hn1 : m.length = n := hl.trans hn
    rw [hn1, hn]
    have HL := hid hn1; have HL2 := hid hn
    rw [hn1] at hs1
    clear hs2 hl hn hn1
    go_enter Tryd.func13, Tryd.ntmps13
    go_wp2_with fail
    go_loopw [5] (fun i wr => ∃ j : Nat, j ≤ n ∧ i = .int .i64 j ∧ Below w.heap.size w wr ∧ m.take j = k.take j) (fun i _ => n - (intOf i).toNat)
    case atStart => exact ⟨0, Nat.zero_le _, rfl, Below.refl _ _, rfl⟩
    case round =>
      obtain ⟨j, hj, rfl, hb, ht⟩ := hrel
      by_cases hlt : j < n
      · obtain ⟨p, o, rfl, hc⟩ := (HM.out.below hb).cells j (by rw [HL.out]; exact hlt)
        obtain ⟨p2, o2, rfl, hc2⟩ := (HK.out.below hb).cells j (by rw [HL2.out]; exact hlt)
        have he := take_succ_eq (by rw [HL.out]; exact hlt) (by rw [HL2.out]; exact hlt) ht
        obtain ⟨x, hx⟩ : ∃ x, m[j]'(by rw [HL.out]; exact hlt) = x := ⟨_, rfl⟩
        obtain ⟨y, hy⟩ : ∃ y, k[j]'(by rw [HL2.out]; exact hlt) = y := ⟨_, rfl⟩
        rw [hx] at hc he
        rw [hy] at hc2 he
        have HE := hid he; have HB := hid hb
        clear hx hy he ht hb
        by_cases hxy : x = y
        · subst hxy
          have HT : Hid (m.take (j + 1) = k.take (j + 1)) := hid (HE.out.2 rfl)
          go_wp2_with fail
          go_big_quiet (fail)
          go_wp2_with fail
          go_roundw
          case rel => exact ⟨j + 1, by omega, by go_num, below_drewN1 HB.out _, HT.out⟩
          case measure => simp [intOf]; omega
        · have hne : (x != y) = true := by simpa using hxy
          have HF : Hid (m ≠ k) := hid (fun e => hxy (HE.out.1 (by rw [e])))
          go_wp2_with fail
          go_big_quiet (fail)
          go_wp2_with fail
          go_ret
          exact ⟨by rw [decide_eq_false HF.out]; rfl, below_drewN1 HB.out _⟩
      · have e1 : j = n := by omega
        have HT : Hid (m = k) := hid (by
          rw [e1, List.take_of_length_le (by rw [HL.out]; exact Nat.le_refl _), List.take_of_length_le (by rw [HL2.out]; exact Nat.le_refl _)] at ht
          exact ht)
        have HB := hid hb
        clear ht hb
        go_wp2_with fail
        go_ret
        exact ⟨by rw [decide_eq_true HT.out]; rfl, HB.out⟩
  · have hF : m ≠ k := fun e => hl (by rw [e])
    have HF := hid hF
    clear hF
    go_enter Tryd.func13, Tryd.ntmps13
    go_wp2_with fail
    go_ret
    exact ⟨by rw [decide_eq_false HF.out]; rfl, Below.refl _ _⟩
set_option maxRecDepth 100000 in
set_option maxHeartbeats 1000000 in
theorem noneI_any (a : Option Addr) (c : Nat) (m : List Int) (w : World) (hM : IntsAt w a m) :
    Calls Tryd.prog 33 #[.slice a m.length c] w fun e w' => e = .returned (.bool (!(m.any fun x => x != 0))) ∧ w' = w := by
  have HN := hid hM
  have hmax : maxLen = 9223372036854775807 := rfl
  have hsm := hM.small
  clear hM
  go_enter Tryd.func33, Tryd.ntmps33
  go_wp2_with fail
  go_loopw [3] (fun i wr => ∃ j : Nat, j ≤ m.length ∧ i = .int .i64 j ∧ wr = w ∧ ((m.drop j).any fun x => x != 0) = m.any fun x => x != 0) (fun i _ => m.length - (intOf i).toNat)
  case atStart => exact ⟨0, Nat.zero_le _, rfl, rfl, rfl⟩
  case round =>
    obtain ⟨j, hj, rfl, rfl, hm⟩ := hrel
    by_cases hlt : j < m.length
    · obtain ⟨b, o, rfl, hc⟩ := HN.out.cells j hlt
      rw [List.drop_eq_getElem_cons hlt, List.any_cons] at hm
      obtain ⟨x, hx⟩ : ∃ x, m[j] = x := ⟨_, rfl⟩
      rw [hx] at hm hc
      by_cases h0 : x = 0
      · subst h0
        have HM : Hid (((m.drop (j + 1)).any fun x => x != 0) = m.any fun x => x != 0) := hid (by simpa using hm)
        clear hm hx
        go_wp2_with fail
        go_roundw
        case rel => exact ⟨j + 1, by omega, by go_num, trivial, HM.out⟩
        case measure => simp [intOf]; omega
      · have hne : (x != 0) = true := by simpa using h0
        have HM : Hid ((m.any fun x => x != 0) = true) := hid (by rw [← hm, hne, Bool.true_or])
        clear hm hx
        go_wp2_with fail
        go_ret
        exact ⟨by rw [HM.out]; rfl, rfl⟩
    · have e1 : j = m.length := by omega
      rw [e1, List.drop_length] at hm
      have HM := hid hm
      clear hm
      go_wp2_with fail
      go_ret
      exact ⟨by rw [← HM.out]; rfl, rfl⟩
end Go.Proofs.YtdpdpjfnanjmgaaDoor
