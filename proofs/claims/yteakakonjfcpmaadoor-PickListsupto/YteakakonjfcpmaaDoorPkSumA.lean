/- Sum of package pick. -/
import Derived.Test.YteakakonjfcpmaaDoorPkSum
import Derived.OwnWalk
import Derived.Laws.OwnMore
namespace Go.Proofs.YteakakonjfcpmaaDoor
open Go.RowKit

/-- The sum of a mask's rows ahead of a place. -/
def sumTo (m : Int) (rs : List (List Int)) (n : Nat) : Nat → List Int
  | 0 => List.replicate n 0
  | j + 1 => if hasB m j = true then List.zipWith (fun a b => a + 1 * b) (sumTo m rs n j) (rs.getD j []) else sumTo m rs n j
structure RowsOk (rs : List (List Int)) (n : Nat) : Prop where
  few : rs.length ≤ 16
  wide : n ≤ 10
  len : ∀ r ∈ rs, r.length = n
  nums : ∀ r ∈ rs, ∀ x ∈ r, 0 ≤ x ∧ x ≤ 1048576
theorem pkE_ok {rs : List (List Int)} {ws : List Int} (h : pkE rs ws = 0) : RowsOk rs ws.length := by
  unfold pkE at h
  split at h
  · omega
  split at h
  · omega
  split at h
  · omega
  split at h
  · omega
  rename_i h1 h2 h3 h4
  have hb : ∀ r ∈ rs, badR ws.length r = false := fun r hr => by
    cases hc : badR ws.length r with
    | false => rfl
    | true => exact absurd (List.any_eq_true.2 ⟨r, hr, hc⟩) h4
  refine ⟨by omega, by omega, fun r hr => ?_, fun r hr x hx => ?_⟩
  · have := hb r hr
    unfold badR at this
    rw [Bool.or_eq_false_iff] at this
    simpa using this.1
  · have := hb r hr
    unfold badR at this
    rw [Bool.or_eq_false_iff] at this
    have h5 : badC x = false := by
      cases hc : badC x with
      | false => rfl
      | true => rw [List.any_eq_true.2 ⟨x, hx, hc⟩] at this; cases this.2
    unfold badC at h5
    simp at h5
    omega
theorem sumTo_ok {m : Int} {rs : List (List Int)} {n : Nat} (h : RowsOk rs n) : ∀ j, j ≤ rs.length → (sumTo m rs n j).length = n ∧ ∀ x ∈ sumTo m rs n j, 0 ≤ x ∧ x ≤ 1048576 * j
  | 0, _ => by
    refine ⟨by simp [sumTo], fun x hx => ?_⟩
    have := List.eq_of_mem_replicate hx
    omega
  | j + 1, hj => by
    have ih := sumTo_ok (m := m) h j (by omega)
    have hr : rs.getD j [] ∈ rs := by rw [List.getD_eq_getElem?_getD, List.getElem?_eq_getElem (by omega)]; exact List.getElem_mem _
    unfold sumTo
    split
    · refine ⟨by rw [List.length_zipWith, ih.1, h.len _ hr]; simp, fun x hx => ?_⟩
      obtain ⟨i, hi, rfl⟩ := List.getElem_of_mem hx
      rw [List.getElem_zipWith]
      rw [List.length_zipWith] at hi
      have h1 := ih.2 ((sumTo m rs n j)[i]'(by omega)) (List.getElem_mem _)
      have h2 := h.nums _ hr ((rs.getD j [])[i]'(by omega)) (List.getElem_mem _)
      omega
    · refine ⟨ih.1, fun x hx => ?_⟩
      have := ih.2 x hx
      omega
theorem made_ints {W : World} {V n : Nat} (h : W.ownsRow V 3 1 (.slice (some ⟨V, 0, none⟩) n n) n (madeCells (Value.int .i64 0).cells (n * 1)).toList) : IRow W V (List.replicate n 0) := by
  rcases h.2 with ⟨hv, _⟩ | ⟨g, cap, cur, hv, _, hh, _, _, hcs, ht⟩
  · cases hv
  · cases hv
    unfold IRow
    rw [hh]
    congr 2
    have e1 : cur.toList = (madeCells (Value.int .i64 0).cells (n * 1)).toList := by rw [← ht, List.take_of_length_le (by simp [hcs])]
    rw [show (Value.int .i64 0).cells = #[.int .i64 0] from rfl, toList_madeCells_one, Nat.mul_one] at e1
    refine Array.toList_inj.1 ?_
    rw [e1]
    simp
theorem Tryd.info3 : (Tryd.prog.info? 3).map (fun i => (i.zero, i.size, i.bytes)) = some (some (.int .i64 0), 1, 8) := by kernel_rfl
/-- Sum: what it answers. -/
def SumEnd (rs : List (List Int)) (ws : List Int) (m : Int) (w : World) (e : Ending) (w' : World) : Prop := Below w.heap.size w w' ∧
  ((pkE rs ws ≠ 0 ∧ e = .returned (.tuple #[.slice none 0 0, .int .i64 (pkE rs ws)])) ∨ (pkE rs ws = 0 ∧ m / 2 ^ rs.length ≠ 0 ∧ e = .returned (.tuple #[.slice none 0 0, .int .i64 1])) ∨
   (pkE rs ws = 0 ∧ m / 2 ^ rs.length = 0 ∧ ∃ V, w.heap.size ≤ V ∧ e = .returned (.tuple #[.slice (some ⟨V, 0, none⟩) ws.length ws.length, .int .i64 0]) ∧ IRow w' V (sumTo m rs ws.length rs.length)))
set_option maxRecDepth 100000 in
set_option maxHeartbeats 4000000 in
theorem psum_any (a : Option Addr) (c : Nat) (rs : List (List Int)) (b : Option Addr) (d : Nat) (ws : List Int) (m : Int) (w : World) (hR : RowsAt w a rs) (hW : IntsAt w b ws) :
    Calls Tryd.prog 11 #[.slice a rs.length c, .slice b ws.length d, .int .u32 m] w (SumEnd rs ws m w) := by
  obtain ⟨i0, hi, hz0, hz1, hz2⟩ := info_parts Tryd.info3
  have HCK := hid (pcheck_any a c rs b d ws w hR hW)
  have HR := hid hR
  have hs1 := hR.small; have hs2 := hW.small
  have hmax : maxLen = 9223372036854775807 := rfl
  clear hR hW
  obtain ⟨R, hRR⟩ : ∃ R, pkE rs ws = R := ⟨_, rfl⟩
  rw [hRR] at HCK
  have HRR := hid hRR
  go_enter Tryd.func11, Tryd.ntmps11
  go_wp2_with fail
  refine HCK.out.mono ?_
  rintro e w1 ⟨rfl, rfl⟩
  clear HCK hRR
  by_cases h0 : R = 0
  · subst h0
    have OK := hid (pkE_ok HRR.out)
    have hw10 := OK.out.wide; have hf16 := OK.out.few
    by_cases hm : m / 2 ^ rs.length = 0
    · have HM := hid hm
      have hne : (m / 2 ^ rs.length != 0) = false := by simp [hm]
      clear hm
      go_upto_region 7 with (at_make; refine wpList_make_full _ rfl _ _ 29 rfl w1.heap.size 3 i0 (.int .i64 0) 1 Tryd.underlying29 hi hz0 hz1 .i64 .i64 _ _ ws.length rfl rfl rfl rfl (by rw [hz2]; omega) (by omega) (Nat.le_refl _) ?_; intro w0 hown0 hgrow0)
      have hbm : Below w1.heap.size w1 w0 := (Below.refl _ _).grown hgrow0 (Nat.le_refl _) (fun k e => by cases e)
      have I0 := hid (made_ints hown0); have B0 := hid hbm
      clear hown0 hgrow0 hbm
      go_wp2_with fail
      go_loopw [28] (fun iv wr => ∃ j : Nat, j ≤ rs.length ∧ iv = .int .i64 j ∧ IRow wr w1.heap.size (sumTo m rs ws.length j) ∧ Below w1.heap.size w1 wr) (fun iv _ => rs.length - (intOf iv).toNat)
      case atStart => exact ⟨0, Nat.zero_le _, rfl, I0.out, B0.out⟩
      case round =>
        obtain ⟨j, hj, rfl, hI, hb⟩ := hrel
        have HI := hid hI; have HB := hid hb
        by_cases hlt : j < rs.length
        · obtain ⟨b1, o1, p1, c1, rfl, hc, hrow⟩ := (HR.out.below hb).cells j hlt
          have hmem : rs[j] ∈ rs := List.getElem_mem hlt
          have hgd : rs.getD j [] = rs[j] := by rw [List.getD_eq_getElem?_getD, List.getElem?_eq_getElem hlt]; rfl
          obtain ⟨_, o2, p2, c2, e2, hc2, hrow2⟩ := HR.out.cells j hlt
          cases e2
          have hpc : p2 = p1 ∧ c2 = c1 := by
            have := (below_cell hb _ _ hc2).symm.trans hc
            simp at this
            exact ⟨this.1, this.2⟩
          obtain ⟨rfl, rfl⟩ := hpc
          have hlr := OK.out.len _ hmem
          have hok := sumTo_ok (m := m) OK.out j hj
          have HCT := hid (count_any w1.heap.size w1.heap.size ws.length (sumTo m rs ws.length j) p2 c2 rs[j] 1 wr hI (Nat.le_refl _) (fun w' hw' => hrow2.below (hb.trans hw')) (by rw [hlr, hok.1]) (by rw [hok.1]; omega) (.inl rfl) (OK.out.nums _ hmem) (fun x hx => by have := hok.2 x hx; omega))
          have HH := hid (has_any m j wr)
          have HSU : Hid (sumTo m rs ws.length (j + 1) = if hasB m j = true then List.zipWith (fun a b => a + 1 * b) (sumTo m rs ws.length j) rs[j] else sumTo m rs ws.length j) := hid (by conv => lhs; unfold sumTo; rw [hgd])
          obtain ⟨r, hr⟩ : ∃ r, rs[j] = r := ⟨_, rfl⟩
          rw [hr] at hc HCT hlr HSU
          rw [hlr] at hc HCT
          rw [hok.1] at HCT
          obtain ⟨bv, hbv⟩ : ∃ bv, hasB m j = bv := ⟨_, rfl⟩
          rw [hbv] at HH HSU
          clear hI hb hrow hrow2 hc2 hmem hgd hr hok hbv
          go_wp2_with fail
          refine HH.out.mono ?_
          rintro e w2 ⟨rfl, rfl⟩
          cases bv
          · go_wp2_with fail
            go_roundw
            case rel => exact ⟨j + 1, by omega, by go_num, by rw [HSU.out]; exact HI.out, HB.out⟩
            case measure => simp [intOf]; omega
          · go_wp2_with fail
            refine HCT.out.mono ?_
            rintro e w3 ⟨⟨u, rfl⟩, hI3, hb3⟩
            have HI3 := hid hI3; have HB3 := hid (HB.out.trans hb3)
            clear hI3 hb3
            go_wp2_with fail
            go_roundw
            case rel => exact ⟨j + 1, by omega, by go_num, by rw [HSU.out]; exact HI3.out, HB3.out⟩
            case measure => simp [intOf]; omega
        · have e1 : j = rs.length := by omega
          rw [e1] at HI
          clear hI hb
          go_wp2_with fail
          go_ret2
          exact ⟨HB.out, .inr (.inr ⟨HRR.out, HM.out, w1.heap.size, Nat.le_refl _, rfl, HI.out⟩)⟩
    · have HM := hid hm
      have hne : (m / 2 ^ rs.length != 0) = true := by simpa using hm
      clear hm
      go_wp2_with fail
      go_ret2
      exact ⟨Below.refl _ _, .inr (.inl ⟨HRR.out, HM.out, rfl⟩)⟩
  · have hne : (R != 0) = true := by simpa using h0
    have H0 := hid h0
    go_wp2_with fail
    go_ret2
    exact ⟨Below.refl _ _, .inl ⟨by rw [HRR.out]; exact H0.out, by rw [HRR.out]; rfl⟩⟩
end Go.Proofs.YteakakonjfcpmaaDoor
