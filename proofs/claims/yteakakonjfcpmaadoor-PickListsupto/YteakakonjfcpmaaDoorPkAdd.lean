/- The document's add of layer 10. -/
import Derived.Test.YteakakonjfcpmaaDoorPkFits
namespace Go.Proofs.YteakakonjfcpmaaDoor
open Go.RowKit

theorem has_one (m : Int) (i : Nat) (h0 : 0 ≤ m) (h1 : m < 4294967296) : (bits BinOp.and IntKind.u32 (m / 2 ^ min i 32) 1 == 1) = hasB m i := by
  obtain ⟨M, rfl⟩ := Int.eq_ofNat_of_zero_le h0
  have h2 : ((M : Int) / 2 ^ min i 32) = ((M / 2 ^ min i 32 : Nat) : Int) := by simp
  have h3 : M / 2 ^ min i 32 < 4294967296 := Nat.lt_of_le_of_lt (Nat.div_le_self _ _) (by omega)
  unfold hasB
  rw [h2]
  have h4 := u32_and_nat (M / 2 ^ min i 32) 1 h3 (by omega)
  rw [show ((1 : Nat) : Int) = 1 from rfl] at h4
  rw [h4]
  have h5 : (M / 2 ^ min i 32) &&& 1 = (M / 2 ^ min i 32) % 2 := Nat.and_one_is_mod _
  rw [h5]
  rcases Nat.mod_two_eq_zero_or_one (M / 2 ^ min i 32) with h | h <;> rw [h] <;> rfl
set_option maxRecDepth 100000 in
set_option maxHeartbeats 4000000 in
theorem radd_any (a : Option Addr) (c : Nat) (rs : List (List Int)) (n : Nat) (m : Int) (w : World) (hR : RowsAt w a rs) (hO : RowsOk rs n) (h0 : 0 ≤ m) (h1 : m < 4294967296) :
    Calls Tryd.prog 33 #[.slice a rs.length c, .int .i64 n, .int .u32 m] w fun e w' => ∃ V, w.heap.size ≤ V ∧ e = .returned (.slice (some ⟨V, 0, none⟩) n n) ∧ IRow w' V (sumTo m rs n rs.length) ∧ Below w.heap.size w w' := by
  obtain ⟨i0, hi, hz0, hz1, hz2⟩ := info_parts Tryd.info3
  have HR := hid hR; have OK := hid hO
  have hw10 := hO.wide; have hf16 := hO.few
  have hmax : maxLen = 9223372036854775807 := rfl
  have HO1 := hid fun i => has_one m i h0 h1
  clear hR hO
  go_enter Tryd.func33, Tryd.ntmps33
  go_upto_region 2 with (at_make; refine wpList_make_full _ rfl _ _ 29 rfl w.heap.size 3 i0 (.int .i64 0) 1 Tryd.underlying29 hi hz0 hz1 .i64 .i64 _ _ n rfl rfl rfl rfl (by rw [hz2]; omega) (by omega) (Nat.le_refl _) ?_; intro w0 hown0 hgrow0)
  have hbm : Below w.heap.size w w0 := (Below.refl _ _).grown hgrow0 (Nat.le_refl _) (fun k e => by cases e)
  have I0 := hid (made_ints hown0); have B0 := hid hbm
  clear hown0 hgrow0 hbm
  go_wp2_with fail
  go_loopw [8] (fun iv wr => ∃ j : Nat, j ≤ rs.length ∧ iv = .int .i64 j ∧ IRow wr w.heap.size (sumTo m rs n j) ∧ Below w.heap.size w wr) (fun iv _ => rs.length - (intOf iv).toNat)
  case atStart => exact ⟨0, Nat.zero_le _, rfl, I0.out, B0.out⟩
  case round =>
    obtain ⟨j, hj, rfl, hI, hb⟩ := hrel
    have HI := hid hI; have HB := hid hb
    by_cases hlt : j < rs.length
    · have hmem : rs[j] ∈ rs := List.getElem_mem hlt
      have hgd : rs.getD j [] = rs[j] := by rw [List.getD_eq_getElem?_getD, List.getElem?_eq_getElem hlt]; rfl
      have hlr := OK.out.len _ hmem
      have hok := sumTo_ok (m := m) OK.out j hj
      have hnum := OK.out.nums _ hmem
      have HSU : Hid (sumTo m rs n (j + 1) = if hasB m j = true then List.zipWith (fun a b => a + 1 * b) (sumTo m rs n j) rs[j] else sumTo m rs n j) := hid (by conv => lhs; unfold sumTo; rw [hgd])
      obtain ⟨b1, o1, p1, c1, rfl, hc, hrow⟩ := HR.out.cells j hlt
      obtain ⟨r, hr⟩ : ∃ r, rs[j] = r := ⟨_, rfl⟩
      rw [hr] at hc hlr HSU hrow hnum
      have hone := HO1.out j
      rw [Nat.min_eq_left (by omega)] at hone
      obtain ⟨bv, hbv⟩ : ∃ bv, hasB m j = bv := ⟨_, rfl⟩
      rw [hbv] at hone HSU
      have HC0 := hid hc; have HRO := hid hrow; have HOK := hid hok; have HNU := hid hnum
      clear hI hb hc hrow hmem hgd hr hok hbv hnum
      cases bv
      · go_wp2_with fail
        go_roundw
        case rel => exact ⟨j + 1, by omega, by go_num, by rw [HSU.out]; exact HI.out, HB.out⟩
        case measure => simp [intOf]; omega
      · go_wp2_with fail
        clear hone
        go_loopw [9] (fun kv wq => ∃ k : Nat, k ≤ n ∧ kv = .int .i64 k ∧ IRow wq w.heap.size (addTo 1 (sumTo m rs n j) r k) ∧ Below w.heap.size w wq) (fun kv _ => n - (intOf kv).toNat)
        case atStart => exact ⟨0, Nat.zero_le _, rfl, by show IRow _ _ (List.take 0 _ ++ List.drop 0 (sumTo m rs n j)); rw [List.take_zero, List.nil_append, List.drop_zero]; exact HI.out, HB.out⟩
        case round =>
          obtain ⟨k, hk, rfl, hI, hb⟩ := hrel
          have HIk := hid hI; have HBk := hid hb
          have hl1 : r.length = (sumTo m rs n j).length := by rw [hlr, HOK.out.1]
          have hl2 := HOK.out.1
          by_cases hlk : k < n
          · have hId : IRow wr.drew w.heap.size (addTo 1 (sumTo m rs n j) r k) := hI
            have q1 := below_cell hb.drew _ _ HC0.out
            rw [hlr] at q1
            obtain ⟨b3, o3, rfl, q2⟩ := (HRO.out.below hb.drew).cells k (by omega)
            have q3 := hId.cell (j := k) (by rw [addTo_len hl1 (by omega)]; omega)
            rw [addTo_at hl1 (by omega)] at q3
            have q4 := hId.free k
            have b1' := HNU.out (r[k]'(by omega)) (List.getElem_mem _)
            have b2' := HOK.out.2 ((sumTo m rs n j)[k]'(by omega)) (List.getElem_mem _)
            have hst := hId.set k ((sumTo m rs n j)[k]'(by omega) + 1 * r[k]'(by omega))
            rw [addTo_step hl1 (by omega)] at hst
            obtain ⟨x, hx⟩ : ∃ x, r[k]'(by omega) = x := ⟨_, rfl⟩
            obtain ⟨y, hy⟩ : ∃ y, (sumTo m rs n j)[k]'(by omega) = y := ⟨_, rfl⟩
            rw [hx] at q2 b1' hst
            rw [hy] at q3 b2' hst
            rw [Int.one_mul] at hst
            have HS := hid hst
            have HBd := hid (HBk.out.drew.setCell (p := ⟨w.heap.size, k, none⟩) (Nat.le_refl _) (.int .i64 (y + x)))
            clear hst hI hb hx hy hId
            go_wp2_with fail
            go_region
            all_goals
              go_wp2_with fail
              go_roundw
              case rel => exact ⟨k + 1, by omega, by go_num, HS.out, HBd.out⟩
              case measure => simp [intOf]; omega
          · have e2 : k = n := by omega
            have hz : addTo 1 (sumTo m rs n j) r k = List.zipWith (fun a b => a + 1 * b) (sumTo m rs n j) r := by
              unfold addTo
              rw [List.drop_of_length_le (by omega), List.append_nil, List.take_of_length_le (by rw [List.length_zipWith]; omega)]
            rw [hz] at HIk
            clear hz hI hb
            go_wp2_with fail
            go_roundw
            case rel => exact ⟨j + 1, by omega, by go_num, by rw [HSU.out]; exact HIk.out, HBk.out⟩
            case measure => simp [intOf]; omega
    · have e1 : j = rs.length := by omega
      rw [e1] at HI
      clear hI hb
      go_wp2_with fail
      go_ret
      exact ⟨w.heap.size, Nat.le_refl _, rfl, HI.out, HB.out⟩
end Go.Proofs.YteakakonjfcpmaaDoor
