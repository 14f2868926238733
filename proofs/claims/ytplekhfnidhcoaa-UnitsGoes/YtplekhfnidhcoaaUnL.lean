/- UnitsWays' walk. -/
import Derived.Test.YtplekhfnidhcoaaUnJ
import Derived.Test.YtplekhfnidhcoaaUnK
import Derived.Test.YtplekhfnidhcoaaUnE
namespace Go.Proofs.Ytplekhfnidhcoaa
open Go.RowKit Go.Shelf Go.Deep

theorem wayO_small (us : List Int) (vs : List ByteArray) (k : Int) (hk : Is64 k) : (wayO us vs k).1.length ≤ 63 := by
  obtain ⟨h1, h2⟩ := hk
  unfold wayO
  by_cases h : k < 0
  · rw [if_pos h]; exact Nat.zero_le _
  · rw [if_neg h]
    split
    · exact wayR_small us _ _ (by omega)
    · exact Nat.zero_le _
set_option maxRecDepth 100000 in
set_option maxHeartbeats 4000000 in
theorem ways_walk (pu : Option Addr) (cu : Nat) (us : List Int) (pv : Option Addr) (cv : Nat) (vs : List ByteArray) (pl : Option Addr) (cl : Nat) (ls : List Int) (w : World) (hU : IntsAt w pu us) (hV : StrsAt w pv vs) (hL : IntsAt w pl ls)
    (hu : us.length ≤ 17592186044416) (hv : vs.length ≤ 17592186044416) (hl : ls.length ≤ 17592186044416) (hk : ∀ x ∈ ls, Is64 x) :
    Calls Try.prog 4 #[.slice pu us.length cu, .slice pv vs.length cv, .slice pl ls.length cl] w fun e w' => e = .returned (.bool true) ∧ Below w.heap.size w w' := by
  obtain ⟨nu, hNU⟩ : ∃ n, us.length = n := ⟨_, rfl⟩
  obtain ⟨n, hN⟩ : ∃ n, vs.length = n := ⟨_, rfl⟩
  obtain ⟨m, hM⟩ : ∃ n, ls.length = n := ⟨_, rfl⟩
  have HU := hid hU; have HV := hid hV; have HL := hid hL; have HK := hid hk; have HM := hid hM
  have HW1 : Hid (∀ k, Is64 k → ∀ W, Below w.heap.size w W → Calls Try.prog 13 #[.slice pu nu cu, .slice pv n cv, .int .i64 k] W fun e w' => ∃ v, e = .returned (.tuple #[v, .bool (wayO us vs k).2]) ∧ BOwn w' W.heap.size v (wayO us vs k).1 ∧ Below W.heap.size W w') := hid (fun k hk W hW => by
    have := way_any pu cu us pv cv vs k W (hU.below hW) (hV.below hW) hu hv hk
    rw [hNU, hN] at this
    exact this)
  have HW2 : Hid (∀ k, Is64 k → ∀ W, Below w.heap.size w W → Calls Try.prog 14 #[.slice pu nu cu, .slice pv n cv, .int .i64 k] W fun e w' => ∃ v, e = .returned (.tuple #[v, .bool (wayO us vs k).2]) ∧ BOwn w' W.heap.size v (wayO us vs k).1 ∧ Below W.heap.size W w') := hid (fun k hk W hW => by
    have := rway_any pu cu us pv cv vs k W (hU.below hW) (hV.below hW) hu hv hk
    rw [hNU, hN] at this
    exact this)
  rw [hNU] at hu ⊢
  rw [hN] at hv ⊢
  rw [hM] at hl ⊢
  have hlz : (m : Int) ≤ 17592186044416 := by omega
  have HUZ := hid hu; have HVZ := hid hv
  clear hU hV hL hNU hN hM hk hu hv hl
  go_enter Try.func4, Try.ntmps4
  go_wp2_with fail
  refine (head_any _).mono ?_
  rintro e w1 ⟨rfl, hb1⟩
  have HB1 := hid hb1
  clear hb1
  go_wp2
  go_loopw [8] (fun iv wr => ∃ i : Nat, i ≤ m ∧ iv = .int .i64 i ∧ Below w.heap.size w wr) (fun iv _ => m - (intOf iv).toNat)
  case atStart => exact ⟨0, Nat.zero_le _, rfl, HB1.out⟩
  case round =>
    obtain ⟨i, hi, rfl, hlow⟩ := hrel
    have HLW := hid hlow
    clear hlow
    by_cases hlt : i < m
    · obtain ⟨b, o, rfl, hc⟩ := (HL.out.below HLW.out).cells i (by rw [HM.out]; exact hlt)
      obtain ⟨k, hkk⟩ : ∃ k, ls[i]'(by rw [HM.out]; exact hlt) = k := ⟨_, rfl⟩
      have hk64 := HK.out (ls[i]'(by rw [HM.out]; exact hlt)) (List.getElem_mem _)
      rw [hkk] at hc hk64
      have hk0 : (0 : Int) ≤ (i : Int) := by omega
      have hkn : (i : Int) < (m : Int) := by omega
      have HC := hid hc; have HK64 := hid hk64
      have hsm := wayO_small us vs k hk64
      clear hkk hk64
      go_wp2_with fail
      refine (HW1.out k HK64.out wr HLW.out).mono ?_
      rintro e w2 ⟨v1, rfl, ho1, hb2⟩
      have HLW2 := hid (HLW.out.trans (hb2.mono HLW.out.size))
      have HO1 := hid ho1
      have hc2 := below_cell hb2 _ _ HC.out
      have HC2 := hid hc2
      clear ho1 hb2 hc
      go_wp2_with fail
      refine (HW2.out k HK64.out w2 HLW2.out).mono ?_
      rintro e w3 ⟨v2, rfl, ho2, hb3⟩
      have HLW3 := hid (HLW2.out.trans (hb3.mono HLW2.out.size))
      have ho1' := HO1.out.below hb3
      have hc3 := below_cell hb3 _ _ HC2.out
      clear hc2 HO1
      obtain ⟨p1, c1, rfl⟩ := ho1'.form
      obtain ⟨p2, c2, rfl⟩ := ho2.form
      have HA := hid (ho1'.rd (by unfold maxLen; omega)); have HBB := hid (ho2.rd (by unfold maxLen; omega))
      obtain ⟨ok, hok⟩ : ∃ b, (wayO us vs k).2 = b := ⟨_, rfl⟩
      obtain ⟨xs, hxs⟩ : ∃ l, (wayO us vs k).1 = l := ⟨_, rfl⟩
      rw [hok]
      rw [hxs] at HA HBB ⊢
      obtain ⟨q, hq⟩ : ∃ q, xs.length = q := ⟨_, rfl⟩
      have HSM : Hid (∀ W, Below w3.heap.size w3 W → Calls Try.prog 15 #[.slice p1 q c1, .slice p2 q c2] W fun e w' => e = .returned (.bool true) ∧ Below W.heap.size W w') := hid (fun W hW => by
        have := rsame_any p1 c1 xs p2 c2 xs W (HA.out.below hW) (HBB.out.below hW)
        rw [hq, decide_eq_true rfl] at this
        exact this)
      rw [hq]
      obtain ⟨MM, hMM⟩ : ∃ x, manyO nu n k = x := ⟨_, rfl⟩
      have HM1 := hid (fun W => many_any pu nu cu pv n cv k HUZ.out HVZ.out HK64.out W)
      have HM2 := hid (fun W => rmany_any pu nu cu pv n cv k HUZ.out HVZ.out HK64.out W)
      rw [hMM] at HM1 HM2
      have hne := later_some w3
      have d0 := later_cell hc3
      have hbeq : (ok != ok) = false := by cases ok <;> rfl
      have hmeq : (MM != MM) = false := by simp
      clear hok hxs hq hMM ho1' ho2 hb3 hc3 hsm
      go_wp2_with fail
      refine wp_region_later (by kernel_rfl) (by kernel_rfl) ?_
      repeat (go_big_quiet_step ((first | (go_at_call 15; exact calls_later (HSM.out _ (Later.below _))) | (go_at_call 16; exact calls_later_same (HM1.out _)) | (go_at_call 17; exact calls_later_same (HM2.out _)) | fail)))
      refine wpQuiet_nil ?_
      intro _ hw'
      obtain ⟨b3, hw''⟩ := hw'
      subst hw''
      have HB2 := hid (HLW3.out.trans (b3.below.mono HLW3.out.size))
      clear d0
      go_wp2
      go_roundw
      case rel => exact ⟨i + 1, by omega, by go_num, HB2.out⟩
      case measure => simp [intOf]; omega
    · go_wp2
      go_ret
      exact ⟨rfl, HLW.out⟩
end Go.Proofs.Ytplekhfnidhcoaa
