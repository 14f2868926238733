import Derived.Test.YtgidgmgpgfonnaaGreatKStSwap
/- What rotate of the library's stable sort does to a row. -/
namespace Go.Proofs.YtgidgmgpgfonnaaGreat
open Go.RowKit Go.Deep

theorem swapRange_at (g cap : Nat) (cmp : Value) (l X U M V Y : List Bk) (a b m n : Nat) (w : World) (hl : l = X ++ U ++ M ++ V ++ Y) (ha : X.length = a) (hb : (X ++ U ++ M).length = b) (hm : U.length = m) (hn : l.length = n) (hUV : U.length = V.length) (hR : Rw bkCells w g cap l) (hz : l.length ≤ 2097152) :
    Calls Tryz.prog 112 #[.slice (some ⟨g, 0, none⟩) n cap, .int .i64 a, .int .i64 b, .int .i64 m, cmp] w fun e w' => e = .returned (.tuple #[]) ∧ So bkCells w g cap (X ++ V ++ M ++ U ++ Y) w' := by
  subst hl ha hb hm hn
  exact swapRange_any g cap cmp X U M V Y w hUV hR hz
set_option maxRecDepth 100000 in
set_option maxHeartbeats 8000000 in
/-- Two stretches side by side turned. -/
theorem rotate_any (g cap : Nat) (cmp : Value) (X0 A B Y0 : List Bk) (w : World) (hA : 0 < A.length) (hB : 0 < B.length) (hR : Rw bkCells w g cap (X0 ++ A ++ B ++ Y0)) (hn : (X0 ++ A ++ B ++ Y0).length ≤ 2097152) :
    Calls Tryz.prog 95 #[.slice (some ⟨g, 0, none⟩) (X0 ++ A ++ B ++ Y0).length cap, .int .i64 X0.length, .int .i64 (X0 ++ A).length, .int .i64 (X0 ++ A ++ B).length, cmp] w fun e w' => e = .returned (.tuple #[]) ∧ So bkCells w g cap (X0 ++ B ++ A ++ Y0) w' := by
  obtain ⟨n, hN⟩ : ∃ n, (X0 ++ A ++ B ++ Y0).length = n := ⟨_, rfl⟩
  obtain ⟨m, hM⟩ : ∃ m, (X0 ++ A).length = m := ⟨_, rfl⟩
  obtain ⟨b, hb⟩ : ∃ b, (X0 ++ A ++ B).length = b := ⟨_, rfl⟩
  obtain ⟨a, ha⟩ : ∃ a, X0.length = a := ⟨_, rfl⟩
  have hN' : X0.length + A.length + B.length + Y0.length = n := by rw [← hN]; simp only [List.length_append]
  have hM' : X0.length + A.length = m := by rw [← hM]; simp only [List.length_append]
  have hb' : X0.length + A.length + B.length = b := by rw [← hb]; simp only [List.length_append]
  rw [hN] at hn ⊢
  rw [hM, hb, ha]
  have HR := hid hR; have HN := hid hN
  have hma : a < m := by omega
  have hmb : m < b := by omega
  have hbn : b ≤ n := by omega
  have HLA : Hid (A.length = m - a) := hid (by omega)
  have HLB : Hid (B.length = b - m) := hid (by omega)
  have HLX : Hid (X0.length = a) := hid ha
  clear hR hN hM hb ha hN' hM' hb' hA hB
  go_enter Tryz.func95, Tryz.ntmps95
  go_wp2_with fail
  go_loopw [10, 11] (fun iv jv wr => ∃ (i j : Nat) (X U V Y : List Bk), iv = .int .i64 i ∧ jv = .int .i64 j ∧ U.length = i ∧ V.length = j ∧ 0 < i ∧ 0 < j ∧ X.length + i = m ∧ X.length + i + j + Y.length = n ∧ X ++ V ++ U ++ Y = X0 ++ B ++ A ++ Y0 ∧ So bkCells w g cap (X ++ U ++ V ++ Y) wr) (fun iv jv _ => (intOf iv).toNat + (intOf jv).toNat)
  case atStart => exact ⟨m - a, b - m, X0, A, B, Y0, by go_num, by go_num, HLA.out, HLB.out, by omega, by omega, by have := HLX.out; omega, by have := HLX.out; have h := HN.out; simp only [List.length_append] at h; have := HLA.out; have := HLB.out; omega, rfl, ⟨HR.out, Fr.refl _ _⟩⟩
  case round =>
    obtain ⟨i, j, X, U, V, Y, rfl, rfl, hU, hV, hi0, hj0, hXm, hXn, htar, hso⟩ := hrel
    have HSO := hid hso; have HTAR := hid htar
    have hmi : m - i = X.length := by omega
    clear hso htar
    by_cases hij : i = j
    · subst hij
      have hc := swapRange_at g cap cmp (X ++ U ++ V ++ Y) X U [] V Y X.length m i n wr (by simp) rfl (by simp only [List.length_append, List.length_nil]; omega) hU (by simp only [List.length_append]; omega) (by omega) HSO.out.row (by simp only [List.length_append]; omega)
      have HC := hid hc
      have hsub : ((m : Int) - (i : Int)) = ((m - i : Nat) : Int) := by omega
      clear hc
      go_wp2_with fail
      refine HC.out.mono ?_
      rintro e w1 ⟨rfl, hs⟩
      have HS := hid (HSO.out.trans hs)
      clear hs
      go_wp2_with fail
      go_end0
      refine ⟨rfl, ?_⟩
      have h := HS.out
      rw [List.append_nil, HTAR.out] at h
      exact h
    · by_cases hgt : j < i
      · have hc := swapRange_at g cap cmp (X ++ U ++ V ++ Y) X (U.take j) (U.drop j) V Y X.length m j n wr (by rw [List.append_assoc X (U.take j), List.take_append_drop]) rfl (by simp only [List.length_append, List.length_take, List.length_drop]; omega) (by rw [List.length_take]; omega) (by simp only [List.length_append]; omega) (by rw [List.length_take]; omega) HSO.out.row (by simp only [List.length_append]; omega)
        have HC := hid hc
        have hsub : ((m : Int) - (i : Int)) = ((m - i : Nat) : Int) := by omega
        have hne : ¬ ((i : Int) = (j : Int)) := by omega
        clear hc
        go_wp2_with fail
        refine HC.out.mono ?_
        rintro e w1 ⟨rfl, hs⟩
        have HS := hid (HSO.out.trans hs)
        clear hs
        go_wp2_with fail
        go_roundw
        case rel =>
          refine ⟨i - j, j, X ++ V, U.drop j, U.take j, Y, by go_num, rfl, by rw [List.length_drop]; omega, by rw [List.length_take]; omega, by omega, by omega, by rw [List.length_append]; omega, by rw [List.length_append]; omega, ?_, HS.out⟩
          rw [← HTAR.out, List.append_assoc (X ++ V) (U.take j), List.take_append_drop]
        case measure => simp [intOf]; omega
      · have hc := swapRange_at g cap cmp (X ++ U ++ V ++ Y) X U (V.take (j - i)) (V.drop (j - i)) Y X.length (m + j - i) i n wr (by rw [List.append_assoc (X ++ U) (V.take (j - i)), List.take_append_drop]) rfl (by simp only [List.length_append, List.length_take]; omega) hU (by simp only [List.length_append]; omega) (by rw [List.length_drop]; omega) HSO.out.row (by simp only [List.length_append]; omega)
        have HC := hid hc
        have hsub : ((m : Int) - (i : Int)) = ((m - i : Nat) : Int) := by omega
        have hsub2 : ((m : Int) + (j : Int) - (i : Int)) = ((m + j - i : Nat) : Int) := by omega
        have hne : ¬ ((i : Int) = (j : Int)) := by omega
        clear hc
        go_wp2_with fail
        refine HC.out.mono ?_
        rintro e w1 ⟨rfl, hs⟩
        have HS := hid (HSO.out.trans hs)
        clear hs
        go_wp2_with fail
        go_roundw
        case rel =>
          refine ⟨i, j - i, X, V.drop (j - i), V.take (j - i), U ++ Y, rfl, by go_num, by rw [List.length_drop]; omega, by rw [List.length_take]; omega, by omega, by omega, by omega, by rw [List.length_append]; omega, ?_, ?_⟩
          · rw [← HTAR.out, List.append_assoc X (V.take (j - i)), List.take_append_drop, List.append_assoc (X ++ V)]
          · have h := HS.out
            rw [List.append_assoc (X ++ V.drop (j - i) ++ V.take (j - i))] at h
            exact h
        case measure => simp [intOf]; omega
end Go.Proofs.YtgidgmgpgfonnaaGreat
