/- The law's rises. -/
import Derived.Test.YtdpdpjfnanjmgaaDoorSpAa
namespace Go.Proofs.YtdpdpjfnanjmgaaDoor
open Go.RowKit Go.Shelf

/-- The cell of a table of numbers. -/
def tab2 (A : List (List Int)) (i j : Nat) : Int := (A.getD i []).getD j 0
theorem RowsAt.row {w : World} {a : Option Addr} {A : List (List Int)} {K i : Nat} (h : RowsAt w a A) (hk : ∀ r ∈ A, r.length = K) (hi : i < A.length) :
    ∃ b o p c, a = some ⟨b, o, none⟩ ∧ w.cell? ⟨b, o + i, none⟩ = some (.slice p K c) ∧ K ≤ maxLen ∧ ∀ j < K, ∃ b' o', p = some ⟨b', o', none⟩ ∧ w.cell? ⟨b', o' + j, none⟩ = some (.int .i64 (tab2 A i j)) := by
  obtain ⟨b, o, p, c, h1, h2, h3⟩ := h.cells i hi
  have hl := hk A[i] (List.getElem_mem hi)
  rw [hl] at h2
  refine ⟨b, o, p, c, h1, h2, by have := h3.small; rwa [hl] at this, fun j hj => ?_⟩
  obtain ⟨b', o', h4, h5⟩ := h3.cells j (by rw [hl]; exact hj)
  refine ⟨b', o', h4, ?_⟩
  rw [h5]
  unfold tab2
  rw [List.getD_eq_getElem?_getD, List.getD_eq_getElem?_getD, List.getElem?_eq_getElem hi]
  show _ = some (Value.int .i64 ((A[i][j]?).getD 0))
  rw [List.getElem?_eq_getElem (by rw [hl]; exact hj)]
  rfl
set_option maxRecDepth 100000 in
set_option maxHeartbeats 4000000 in
theorem rises_any (a b : Option Addr) (c d : Nat) (A B : List (List Int)) (T K i0 j0 : Nat) (w : World) (hA : RowsAt w a A) (hB : RowsAt w b B) (hAl : A.length = T) (hBl : B.length = T)
    (hAk : ∀ r ∈ A, r.length = K) (hBk : ∀ r ∈ B, r.length = K) (hi0 : i0 < T) (hj0 : j0 < K) (he : ∀ i j, i < T → j < K → (i < i0 ∨ i = i0 ∧ j < j0) → tab2 A i j = tab2 B i j) (hl : tab2 A i0 j0 < tab2 B i0 j0) :
    Calls Tryd.prog 17 #[.slice a T c, .slice b T d] w fun e w' => e = .returned (.bool true) ∧ Below w.heap.size w w' := by
  have hmax : maxLen = 9223372036854775807 := rfl
  have hs1 := hA.small
  rw [hAl] at hs1
  have HA := hid hA; have HB := hid hB; have HAL := hid hAl; have HBL := hid hBl; have HAK := hid hAk; have HBK := hid hBk; have HE := hid he; have HL := hid hl; have HJ0 := hid hj0; have HI0 := hid hi0
  clear hA hB hAl hBl hAk hBk he hl hj0 hi0
  go_enter Tryd.func17, Tryd.ntmps17
  go_wp2_with fail
  go_loopw [5] (fun i wr => ∃ j : Nat, j ≤ i0 ∧ i = .int .i64 j ∧ Below w.heap.size w wr) (fun i _ => i0 - (intOf i).toNat)
  case atStart => exact ⟨0, Nat.zero_le _, rfl, Below.refl _ _⟩
  case round =>
    obtain ⟨i, hi, rfl, hb⟩ := hrel
    have hiT : i < T := by have := HI0.out; omega
    obtain ⟨b1, o1, p1, c1, rfl, hc1, hK, hr1⟩ := RowsAt.row (HA.out.below hb) HAK.out (by rw [HAL.out]; exact hiT)
    obtain ⟨b2, o2, p2, c2, rfl, hc2, -, hr2⟩ := RowsAt.row (HB.out.below hb) HBK.out (by rw [HBL.out]; exact hiT)
    have HBB := hid hb; have HC1 := hid hc1; have HC2 := hid hc2; have HR1 := hid hr1; have HR2 := hid hr2
    clear hb hr1 hr2 hc1 hc2
    go_wp2_with fail
    go_loopw [6] (fun jv w2 => ∃ j : Nat, j ≤ K ∧ (i = i0 → j ≤ j0) ∧ jv = .int .i64 j ∧ Below wr.heap.size wr w2) (fun jv _ => K - (intOf jv).toNat)
    case atStart => exact ⟨0, Nat.zero_le _, fun _ => Nat.zero_le _, rfl, Below.refl _ _⟩
    case round =>
      obtain ⟨j, hj, hji, rfl, hb⟩ := hrel
      have hc1 := below_cell hb _ _ HC1.out
      have hc2 := below_cell hb _ _ HC2.out
      have HBI := hid hb
      by_cases hlt : j < K
      · obtain ⟨b3, o3, rfl, hc3⟩ := HR1.out j hlt
        obtain ⟨b4, o4, rfl, hc4⟩ := HR2.out j hlt
        have hc3 := below_cell hb _ _ hc3
        have hc4 := below_cell hb _ _ hc4
        clear hb
        by_cases hend : i = i0 ∧ j = j0
        · have hxy : tab2 A i j < tab2 B i j := by rw [hend.1, hend.2]; exact HL.out
          obtain ⟨x, hx⟩ : ∃ x, tab2 A i j = x := ⟨_, rfl⟩
          obtain ⟨y, hy⟩ : ∃ y, tab2 B i j = y := ⟨_, rfl⟩
          rw [hx] at hc3 hxy
          rw [hy] at hc4 hxy
          have hne : (x != y) = true := by simp; omega
          clear hx hy hji hend
          go_wp2_with fail
          go_big_quiet (fail)
          go_wp2_with fail
          go_big_quiet (fail)
          go_wp2_with fail
          go_ret
          exact ⟨by first | rfl | simp [hxy], HBB.out.trans ((below_drewN1 (below_drewN1 HBI.out _) _).mono HBB.out.size)⟩
        · have hxy : tab2 A i j = tab2 B i j := HE.out i j hiT hlt (by
            have := hji
            by_cases h : i = i0
            · exact .inr ⟨h, by have := this h; by_cases h2 : j = j0; exact absurd ⟨h, h2⟩ hend; omega⟩
            · exact .inl (by omega))
          rw [← hxy] at hc4
          obtain ⟨x, hx⟩ : ∃ x, tab2 A i j = x := ⟨_, rfl⟩
          rw [hx] at hc3 hc4
          have HJI : Hid (i = i0 → j + 1 ≤ j0) := hid fun h => by
            have := hji h
            by_cases h2 : j = j0
            · exact absurd ⟨h, h2⟩ hend
            · omega
          clear hx hji hend hxy
          go_wp2_with fail
          go_big_quiet (fail)
          go_wp2_with fail
          go_roundw
          case rel => exact ⟨j + 1, by omega, HJI.out, by go_num, below_drewN1 HBI.out _⟩
          case measure => simp [intOf]; omega
      · have e1 : j = K := by omega
        have hii : i + 1 ≤ i0 := by
          by_cases h : i = i0
          · have := hji h; have := HJ0.out; omega
          · omega
        clear hb hji
        go_wp2_with fail
        go_roundw
        case rel => exact ⟨i + 1, hii, by go_num, HBB.out.trans (HBI.out.mono HBB.out.size)⟩
        case measure => simp [intOf]; omega
end Go.Proofs.YtdpdpjfnanjmgaaDoor
