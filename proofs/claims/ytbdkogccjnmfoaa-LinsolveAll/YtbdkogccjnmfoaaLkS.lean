/- The document's Minimal; LinsolveSolves: the walk. -/
import Derived.Test.YtbdkogccjnmfoaaLkP
import Derived.Test.YtbdkogccjnmfoaaLkR
namespace Go.Proofs.Ytbdkogccjnmfoaa
open Go.RowKit Go.Shelf

theorem isMin_mem {a b : List Int} {ms : List Vc} (hmin : IsMin (pbOf a b) (ms.map Vc.l)) (v : List Int) : v ∈ ML a b ↔ ∃ i, ∃ h : i < ms.length, toI ms[i].l = v := by
  unfold ML
  rw [List.mem_map]
  constructor
  · rintro ⟨u, hu, rfl⟩
    obtain ⟨x, hx, rfl⟩ := List.mem_map.1 (hmin.perm.symm.subset hu)
    obtain ⟨i, hi, rfl⟩ := List.getElem_of_mem hx
    exact ⟨i, hi, rfl⟩
  · rintro ⟨i, hi, rfl⟩
    exact ⟨_, hmin.perm.subset (List.mem_map.2 ⟨ms[i], List.getElem_mem hi, rfl⟩), rfl⟩
theorem isMin_len {a b : List Int} (h0 : chkE a b = 0) {ms : List Vc} (hmin : IsMin (pbOf a b) (ms.map Vc.l)) : ms.length ≤ 13060694016 := by
  obtain ⟨l5, l6, _⟩ := chk_zero h0
  have h1 := hmin.perm.length_eq
  rw [List.length_map] at h1
  have h2 := Nat.le_trans (res_len (pbOf a b) 13 root) (siz_pow (p := pbOf a b) l5 l6 13 root)
  simp only [Nat.reducePow] at h2
  omega
set_option maxRecDepth 100000 in
set_option maxHeartbeats 4000000 in
theorem rminimal_any (p : Option Addr) (c : Nat) (a : List Int) (q : Option Addr) (d : Nat) (b : List Int) (r : Option Addr) (m : Nat) (v : List Int) (w : World) (hA : IntsAt w p a) (hB : IntsAt w q b) (hV : IntsAt w r v) (hr : r = none → m = 0) (hvm : v.length ≤ m) :
    Calls Try.prog 27 #[.slice p a.length c, .slice q b.length d, .slice r v.length m] w fun e w' => e = .returned (.bool (minB a b v)) ∧ Below w.heap.size w w' := by
  have hmax : maxLen = 9223372036854775807 := rfl
  have hsv := hV.small
  have HA := hid hA; have HB := hid hB; have HV := hid hV
  have HSV := hid (rsolves_any p c a q d b r m v w hA hB hV hr hvm)
  clear hA hB hV hr
  cases hso : solB a b v with
  | false =>
    have HR := hid (minB_not hso)
    rw [hso] at HSV
    clear hso
    go_enter Try.func27, Try.ntmps27
    go_wp2_with fail
    refine HSV.out.mono ?_
    rintro e w1 ⟨rfl, n, hw1⟩
    have HB1 : Hid (Below w.heap.size w w1) := hid (by rw [hw1]; exact below_drewN (Below.refl _ _) n)
    clear hw1
    go_wp2_with fail
    go_ret
    exact ⟨by rw [HR.out]; rfl, HB1.out⟩
  | true =>
    obtain ⟨h0, hs⟩ := solB_sol hso
    rw [hso] at HSV
    have H0 := hid h0
    obtain ⟨R, hR⟩ : ∃ R, minB a b v = R := ⟨_, rfl⟩
    have HR := hid hR
    rw [hR]
    clear hso hs h0 hR
    go_enter Try.func27, Try.ntmps27
    go_wp2_with fail
    refine HSV.out.mono ?_
    rintro e w1 ⟨rfl, n, hw1⟩
    have HB1 : Hid (Below w.heap.size w w1) := hid (by rw [hw1]; exact below_drewN (Below.refl _ _) n)
    clear hw1 HSV
    have HAL := hid (rall_any p c a q d b w1 (HA.out.below HB1.out) (HB.out.below HB1.out))
    go_wp2_with fail
    refine HAL.out.mono ?_
    rintro e w2 ⟨hb2, (⟨h, _⟩ | ⟨_, vl, ms, rfl, hmin, hX, _⟩)⟩
    · exact absurd H0.out h
    have HB2 : Hid (Below w.heap.size w w2) := hid (HB1.out.trans (hb2.mono HB1.out.size))
    have hnb := isMin_len H0.out hmin
    obtain ⟨ql, cl, hq⟩ := hX.form
    obtain ⟨n, hn⟩ : ∃ n, ms.length = n := ⟨_, rfl⟩
    rw [hn] at hq hnb
    subst hq
    have HX := hid hX; have HMM := hid (isMin_mem hmin v); have HN := hid hn
    clear hb2 hmin hX hn HAL
    go_wp2_with fail
    go_loopw [9] (fun iv wr => ∃ i : Nat, i ≤ n ∧ iv = .int .i64 i ∧ (∀ k (hk : k < ms.length), k < i → toI ms[k].l ≠ v) ∧ Below w2.heap.size w2 wr) (fun iv _ => n - (intOf iv).toNat)
    case atStart => exact ⟨0, Nat.zero_le _, rfl, fun k _ h => absurd h (Nat.not_lt_zero k), Below.refl _ _⟩
    case round =>
      obtain ⟨i, hi, rfl, hno, hbe⟩ := hrel
      rename World => wr
      by_cases hlt : i < n
      · have him : i < ms.length := by rw [HN.out]; exact hlt
        obtain ⟨g, hg, _, _, _, hgc⟩ := (HX.out.below hbe).cell i him
        subst hg
        have hvat := (HX.out.below hbe).vec _ (List.getElem_mem him)
        have hxl : ms[i].l.length ≤ maxLen := by obtain ⟨cur, _, h1, _, h2⟩ := hvat.blk; omega
        have hSM := same_any (some ⟨ms[i].b, 0, none⟩) ms[i].c (toI ms[i].l) r m v wr (hvat.ints0 hxl) (HV.out.below (HB2.out.trans (hbe.mono HB2.out.size)))
        rw [toI_len] at hSM
        obtain ⟨T, hT⟩ : ∃ T, decide (toI ms[i].l = v) = T := ⟨_, rfl⟩
        rw [hT] at hSM
        have HNX : Hid (T = false → ∀ k (hk : k < ms.length), k < i + 1 → toI ms[k].l ≠ v) := hid (fun h k hk hki e => by
          rcases Nat.lt_or_ge k i with h1 | h1
          · exact hno k hk h1 e
          · have : k = i := by omega
            subst this
            rw [h] at hT
            exact of_decide_eq_false hT e)
        have HYS : Hid (T = true → R = true) := hid (fun h => by
          rw [h] at hT
          rw [← HR.out]
          exact (minB_iff a b v).2 ⟨H0.out, HMM.out.2 ⟨i, him, of_decide_eq_true hT⟩⟩)
        have c1 : wr.cell? ⟨g, i, none⟩ = some (.slice (some ⟨ms[i].b, 0, none⟩) ms[i].l.length ms[i].c) := hgc
        have HSM := hid hSM; have HBE := hid hbe
        generalize ms[i].l.length = L1 at c1 HSM
        generalize ms[i].b = B1 at c1 HSM
        generalize ms[i].c = C1 at c1 HSM
        clear hno hbe hgc hvat hT hSM hxl him
        cases T with
        | true =>
          have HRT := hid (HYS.out rfl)
          clear HYS HNX
          go_wp2_with fail
          refine HSM.out.mono ?_
          rintro e w3 ⟨rfl, hb3⟩
          have HB3 : Hid (Below w.heap.size w w3) := hid (HB2.out.trans ((HBE.out.trans (hb3.mono HBE.out.size)).mono HB2.out.size))
          clear hb3
          go_wp2_with fail
          go_ret
          exact ⟨by rw [HRT.out]; rfl, HB3.out⟩
        | false =>
          have HNN := hid (HNX.out rfl)
          clear HYS HNX
          go_wp2_with fail
          refine HSM.out.mono ?_
          rintro e w3 ⟨rfl, hb3⟩
          have HB3 : Hid (Below w2.heap.size w2 w3) := hid (HBE.out.trans (hb3.mono HBE.out.size))
          clear hb3
          go_wp2_with fail
          go_roundw
          case rel => exact ⟨i + 1, by omega, by go_num, HNN.out, HB3.out⟩
          case measure => simp [intOf]; omega
      · have HRF : Hid (R = false) := hid (by
          cases hRR : R with
          | false => rfl
          | true =>
            have h1 := HR.out
            rw [hRR] at h1
            obtain ⟨k, hk, e⟩ := HMM.out.1 ((minB_iff a b v).1 h1).2
            exact absurd e (hno k hk (by have := HN.out; omega)))
        have HBE : Hid (Below w.heap.size w wr) := hid (HB2.out.trans (hbe.mono HB2.out.size))
        clear hno hbe
        go_wp2_with fail
        go_ret
        exact ⟨by rw [HRF.out]; rfl, HBE.out⟩
theorem LentI.bl {W : World} {base g : Nat} {l : List Int} (h : LentI W base g l) : Bl W g l := ⟨_, h.blk, fun i hi => by
  rw [List.getElem?_toArray, List.getElem?_append_left (by rw [cAll_len]; exact hi)]
  unfold cAll
  rw [List.getElem?_map, List.getElem?_eq_getElem hi]
  rfl⟩
set_option maxRecDepth 100000 in
set_option maxHeartbeats 8000000 in
theorem linsolveSolves_walk (p : Option Addr) (c : Nat) (a : List Int) (q : Option Addr) (d : Nat) (b : List Int) (x : Option Addr) (f : Nat) (ls : List (List Int)) (w : World) (hA : IntsAt w p a) (hB : IntsAt w q b) (hL : RowsIn w x ls) :
    Calls Try.prog 6 #[.slice p a.length c, .slice q b.length d, .slice x ls.length f] w fun e w' => e = .returned (.bool true) ∧ Below w.heap.size w w' := by
  have hmax : maxLen = 9223372036854775807 := rfl
  have hsl := hL.small
  have HA := hid hA; have HB := hid hB; have HL := hid hL
  clear hA hB hL
  go_enter Try.func6, Try.ntmps6
  go_wp2_with fail
  refine (lives_any w).mono ?_
  rintro e w1 ⟨rfl, hb1⟩
  have HB1 := hid hb1
  clear hb1
  go_wp2_with fail
  go_loopw [8] (fun iv wr => ∃ i : Nat, i ≤ ls.length ∧ iv = .int .i64 i ∧ Below w.heap.size w wr) (fun iv _ => ls.length - (intOf iv).toNat)
  case atStart => exact ⟨0, Nat.zero_le _, rfl, HB1.out⟩
  case round =>
    obtain ⟨i, hi, rfl, hbe⟩ := hrel
    rename World => wr
    by_cases hlt : i < ls.length
    · obtain ⟨gb, go, r, m, hx, hc, hI, hr, hvm, hmm, hv17⟩ := HL.out.cells i hlt
      subst hx
      obtain ⟨v, hv⟩ : ∃ v, ls[i] = v := ⟨_, rfl⟩
      rw [hv] at hc hI hvm hv17
      have c1 := below_cell hbe _ _ hc
      have HLE := hid (lent_any r m v wr (hI.below hbe) hr hv17)
      have HI := hid hI; have HR := hid hr; have HBE := hid hbe; have HC := hid hc; have HVM := hid hvm; have HV17 := hid hv17
      clear hc hI hr hv hbe hvm hv17
      go_wp2_with fail
      refine HLE.out.mono ?_
      rintro e w2 ⟨g, rfl, hLI, hb2⟩
      have HB2 : Hid (Below w.heap.size w w2) := hid (HBE.out.trans (hb2.mono HBE.out.size))
      have HLI := hid hLI
      have HS := hid (solves_any p c a q d b g (v.length + 1) v w2 (HA.out.below HB2.out) (HB.out.below HB2.out) hLI.bl (by omega) (by have := HV17.out; omega))
      clear hb2 hLI HLE c1
      go_wp2_with fail
      refine HS.out.mono ?_
      rintro e w3 ⟨rfl, hb3⟩
      have HB3 : Hid (Below w.heap.size w w3) := hid (HB2.out.trans (hb3.mono HB2.out.size))
      have HLI3 := hid (HLI.out.below hb3)
      have HM := hid (minimal_any p c a q d b g (v.length + 1) v w3 (HA.out.below HB3.out) (HB.out.below HB3.out) HLI3.out.bl (by omega) (by have := HV17.out; omega))
      clear hb3 HLI HS
      go_wp2_with fail
      refine HM.out.mono ?_
      rintro e w4 ⟨rfl, hb4⟩
      have HB4 : Hid (Below w.heap.size w w4) := hid (HB3.out.trans (hb4.mono HB3.out.size))
      have HLI4 := hid (HLI3.out.below hb4)
      have HKP := hid (kept_any wr.heap.size g v r m w4 HLI4.out (HI.out.below HB4.out) HV17.out)
      have c2 := below_cell HB4.out _ _ HC.out
      clear hb4 HLI3 HM
      go_wp2_with fail
      refine HKP.out.mono ?_
      rintro e w5 ⟨rfl, hb5⟩
      have HB5 : Hid (Below w.heap.size w w5) := hid (HB4.out.trans (hb5.mono HB4.out.size))
      have HRS := hid (rsolves_any p c a q d b r m v w5 (HA.out.below HB5.out) (HB.out.below HB5.out) (HI.out.below HB5.out) HR.out HVM.out)
      clear c2
      have c3 := below_cell HB5.out _ _ HC.out
      clear hb5 HLI4 HKP
      go_wp2_with fail
      refine HRS.out.mono ?_
      rintro e w6 ⟨rfl, n6, hw6⟩
      have HB6 : Hid (Below w.heap.size w w6) := hid (by rw [hw6]; exact below_drewN HB5.out n6)
      have HRM := hid (rminimal_any p c a q d b r m v w6 (HA.out.below HB6.out) (HB.out.below HB6.out) (HI.out.below HB6.out) HR.out HVM.out)
      clear c3
      have c4 := below_cell HB6.out _ _ HC.out
      clear hw6 HRS
      have hq1 : (solB a b v != solB a b v) = false := by simp
      generalize solB a b v = T1 at hq1 ⊢
      go_wp2_with fail
      refine HRM.out.mono ?_
      rintro e w7 ⟨rfl, hb7⟩
      have HB7 : Hid (Below w.heap.size w w7) := hid (HB6.out.trans (hb7.mono HB6.out.size))
      have hq2 : (minB a b v != minB a b v) = false := by simp
      clear hb7 HRM c4
      generalize minB a b v = T2 at hq2 ⊢
      go_wp2_with fail
      go_roundw
      case rel => exact ⟨i + 1, by omega, by go_num, HB7.out⟩
      case measure => simp [intOf]; omega
    · have HBE := hid hbe
      clear hbe
      go_wp2_with fail
      go_ret
      exact ⟨rfl, HBE.out⟩
end Go.Proofs.Ytbdkogccjnmfoaa
