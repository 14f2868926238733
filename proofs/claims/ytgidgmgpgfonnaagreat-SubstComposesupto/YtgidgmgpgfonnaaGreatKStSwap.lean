import Derived.Test.YtgidgmgpgfonnaaGreatKStRow
/- What swapRange and rotate of the library's stable sort do to a row. -/
namespace Go.Proofs.YtgidgmgpgfonnaaGreat
open Go.RowKit Go.Deep

set_option maxRecDepth 100000 in
set_option maxHeartbeats 8000000 in
/-- Two stretches of one length exchanged. -/
theorem swapRange_any (g cap : Nat) (cmp : Value) (X U M V Y : List Bk) (w : World) (hUV : U.length = V.length) (hR : Rw bkCells w g cap (X ++ U ++ M ++ V ++ Y)) (hn : (X ++ U ++ M ++ V ++ Y).length ≤ 2097152) :
    Calls Tryz.prog 112 #[.slice (some ⟨g, 0, none⟩) (X ++ U ++ M ++ V ++ Y).length cap, .int .i64 X.length, .int .i64 (X ++ U ++ M).length, .int .i64 U.length, cmp] w fun e w' => e = .returned (.tuple #[]) ∧ So bkCells w g cap (X ++ V ++ M ++ U ++ Y) w' := by
  obtain ⟨n, hN⟩ : ∃ n, (X ++ U ++ M ++ V ++ Y).length = n := ⟨_, rfl⟩
  obtain ⟨b, hB⟩ : ∃ b, (X ++ U ++ M).length = b := ⟨_, rfl⟩
  have hN' : X.length + U.length + M.length + V.length + Y.length = n := by rw [← hN]; simp only [List.length_append]
  have hB' : X.length + U.length + M.length = b := by rw [← hB]; simp only [List.length_append]
  rw [hN] at hn ⊢
  rw [hB]
  have HR := hid hR
  clear hR hN hB
  obtain ⟨a, hA⟩ : ∃ a, X.length = a := ⟨_, rfl⟩
  obtain ⟨m, hM⟩ : ∃ m, U.length = m := ⟨_, rfl⟩
  rw [hA, hM]
  go_enter Tryz.func112, Tryz.ntmps112
  go_wp2_with fail
  go_loopw [10] (fun iv wr => ∃ i : Nat, iv = .int .i64 i ∧ i ≤ m ∧ So bkCells w g cap (X ++ V.take i ++ U.drop i ++ M ++ U.take i ++ V.drop i ++ Y) wr) (fun iv _ => m - (intOf iv).toNat)
  case atStart => exact ⟨0, rfl, Nat.zero_le _, ⟨by simpa using HR.out, Fr.refl _ _⟩⟩
  case round =>
    obtain ⟨i, rfl, hi, hso⟩ := hrel
    by_cases hlt : i < m
    · have hu : i < U.length := by omega
      have hv : i < V.length := by omega
      have e0 : X ++ V.take i ++ U.drop i ++ M ++ U.take i ++ V.drop i ++ Y = (X ++ V.take i) ++ U[i] :: ((U.drop (i + 1) ++ M ++ U.take i) ++ V[i] :: (V.drop (i + 1) ++ Y)) := by
        rw [List.drop_eq_getElem_cons hu, List.drop_eq_getElem_cons hv]
        simp only [List.append_assoc, List.cons_append]
      have e1 : X ++ V.take (i + 1) ++ U.drop (i + 1) ++ M ++ U.take (i + 1) ++ V.drop (i + 1) ++ Y = (X ++ V.take i) ++ V[i] :: ((U.drop (i + 1) ++ M ++ U.take i) ++ U[i] :: (V.drop (i + 1) ++ Y)) := by
        rw [List.take_succ_eq_append_getElem hu, List.take_succ_eq_append_getElem hv]
        simp only [List.append_assoc, List.cons_append, List.nil_append]
      have la : (X ++ V.take i).length = a + i := by rw [List.length_append, List.length_take]; omega
      have lb : (X ++ V.take i).length + 1 + (U.drop (i + 1) ++ M ++ U.take i).length = b + i := by simp only [List.length_append, List.length_take, List.length_drop]; omega
      rw [e0] at hso
      have X0 := hso.exch (a + i) (b + i) la lb
      rw [← e1] at X0
      generalize U[i] = x at X0
      generalize V[i] = y at X0
      obtain ⟨c0, c1, c2, c3, f0, f1, f2, f3⟩ := X0.cx
      obtain ⟨d0, d1, d2, d3, k0, k1, k2, k3⟩ := X0.cy
      have HS2 := hid X0.so1
      have hne : a + i ≠ b + i := by omega
      clear hso e0 e1 la lb X0 hu hv
      have mixed : Tryz.prog.follows .mixedOrders = true := by kernel_rfl
      go_wp2_with fail
      go_big_region_o
      all_goals go_wp2
      all_goals
        go_roundw
        case rel => exact ⟨i + 1, by go_num, by omega, HS2.out⟩
        case measure => simp [intOf]; omega
    · have he : i = m := by omega
      have ht : X ++ V.take i ++ U.drop i ++ M ++ U.take i ++ V.drop i ++ Y = X ++ V ++ M ++ U ++ Y := by
        rw [List.take_of_length_le (by omega), List.drop_eq_nil_of_le (by omega), List.take_of_length_le (by omega), List.drop_eq_nil_of_le (by omega)]
        simp
      rw [ht] at hso
      have HSO := hid hso
      clear hso
      go_wp2_with fail
      go_end0
      exact ⟨rfl, HSO.out⟩
end Go.Proofs.YtgidgmgpgfonnaaGreat
