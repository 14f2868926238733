/- The walk of PickCover. -/
import Derived.Laws.BitsLemmas
import Derived.Test.YteakakonjfcpmaaDoorPkNames
namespace Go.Proofs.YteakakonjfcpmaaDoor
open Go.RowKit Go.Shelf

theorem i64_and1 (n : Int) : bits .and .i64 n 1 = n % 2 := by
  have h1 : (BitVec.ofInt 64 1).toNat = 2 ^ 1 - 1 := by decide
  have key : (BitVec.ofInt 64 n &&& BitVec.ofInt 64 1).toNat = (n % ((2 ^ 64 : Nat) : Int)).toNat % 2 ^ 1 := by
    rw [BitVec.toNat_and, BitVec.toNat_ofInt, h1, Nat.and_two_pow_sub_one_eq_mod]
  show IntKind.i64.wrap ((BitVec.ofInt 64 n &&& BitVec.ofInt 64 1).toNat : Nat) = n % 2
  rw [key, IntKind.wrap_i64]
  omega
theorem tmod_bd (c : Int) : -10 ≤ c.tmod 11 ∧ c.tmod 11 ≤ 10 := by
  have h1 := Int.tmod_lt_of_pos c (show (0 : Int) < 11 by decide)
  have h2 := Int.lt_tmod_of_pos c (show (0 : Int) < 11 by decide)
  omega
/-- A row as PickCover makes it. -/
def covRow (n : Nat) (r : List Int) : List Int := (List.range n).map fun k => r.getD k 0 % 2
def covTo (n : Nat) (rs : List (List Int)) (j : Nat) : List (List Int) := (List.range j).map fun i => covRow n (rs.getD i [])
theorem covRow_len (n : Nat) (r : List Int) : (covRow n r).length = n := by simp [covRow]
theorem covTo_len (n : Nat) (rs : List (List Int)) (j : Nat) : (covTo n rs j).length = j := by simp [covTo]
theorem covTo_succ (n : Nat) (rs : List (List Int)) (j : Nat) : covTo n rs (j + 1) = covTo n rs j ++ [covRow n (rs.getD j [])] := by simp [covTo, List.range_succ]
theorem cov_ok (n : Nat) (rs : List (List Int)) (j : Nat) (hn : n ≤ 10) (hj : j ≤ 8) : pkE (covTo n rs j) (List.replicate n 2) = 0 := by
  have h1 : (covTo n rs j).any (badR n) = false := by
    rw [Bool.eq_false_iff]
    intro hb
    obtain ⟨r, hr, hbr⟩ := List.any_eq_true.1 hb
    obtain ⟨i, _, rfl⟩ := List.mem_map.1 hr
    unfold badR at hbr
    rw [covRow_len] at hbr
    simp only [bne_self_eq_false, Bool.false_or] at hbr
    obtain ⟨x, hx, hbx⟩ := List.any_eq_true.1 hbr
    obtain ⟨k, _, rfl⟩ := List.mem_map.1 hx
    simp only [badC, Bool.or_eq_true, decide_eq_true_eq] at hbx
    omega
  have h2 : (List.replicate n (2 : Int)).any badW = false := by
    rw [Bool.eq_false_iff]
    intro hb
    obtain ⟨x, hx, hbx⟩ := List.any_eq_true.1 hb
    rw [List.eq_of_mem_replicate hx] at hbx
    cases hbx
  unfold pkE
  rw [covTo_len, List.length_replicate, if_neg (by omega), if_neg (by omega), h2, h1]
  rfl
theorem cov_E (n : Nat) (rs : List (List Int)) (j : Nat) (hn : n ≤ 10) (hj : j ≤ 8) : listE (covTo n rs j) (List.replicate n 2) 65536 = 0 := by
  unfold listE
  rw [cov_ok n rs j hn hj, if_neg (by decide), if_neg (by decide), if_neg]
  have h8 : (fitL (covTo n rs j) (List.replicate n 2)).length ≤ 2 ^ (covTo n rs j).length := by
    unfold fitL fromM
    refine Nat.le_trans (List.length_filter_le _ _) ?_
    simp
  rw [covTo_len] at h8
  have h9 : 2 ^ j ≤ 2 ^ 8 := Nat.pow_le_pow_right (by omega) hj
  omega
/-- Where all wants are of just one a mask fits just if each column's sum is 1. -/
theorem cov_fit {rs : List (List Int)} {n M : Nat} (h : RowsOk rs n) : ∀ k, k ≤ n → (((List.replicate n (2 : Int)).zip (sumN rs n M)).take k).any (fun p => offW p.1 p.2) = !((List.range k).all fun c => (sumN rs n M).getD c 0 == 1)
  | 0, _ => by simp
  | k + 1, hk => by
    have hl := sumN_len (M := M) h
    rw [List.take_add_one, List.getElem?_eq_getElem (by rw [List.length_zip, List.length_replicate]; omega), List.getElem_zip, List.any_append, cov_fit h k (by omega), List.range_succ, List.all_append]
    simp only [Option.toList, List.any_cons, List.any_nil, List.getElem_replicate, offW, List.all_cons, List.all_nil]
    rw [get_d (show k < (sumN rs n M).length by omega)]
    cases (List.range k).all fun c => (sumN rs n M).getD c 0 == 1 <;> cases hb : ((sumN rs n M)[k]'(by omega) == 1) <;> simp [bne, hb]
theorem cov_whole {rs : List (List Int)} {n M : Nat} (h : RowsOk rs n) : fitN rs (List.replicate n 2) M = (List.range n).all fun c => (sumN rs n M).getD c 0 == 1 := by
  have h1 := cov_fit (M := M) h n (Nat.le_refl _)
  rw [List.take_of_length_le (by rw [List.length_zip, List.length_replicate]; omega)] at h1
  unfold fitN fitW
  rw [List.length_replicate, h1, Bool.not_not]
/-- The mask at hand is the next one that is listed just if it fits. -/
theorem cov_listed {fit : Nat → Bool} {K M at_ : Nat} {L : List Nat} (hM : M < K) (hd : fromM fit K M = L.drop at_) : (fit M = true → L[at_]? = some M) ∧ (fit M = false → L[at_]? ≠ some M) := by
  rw [fromM_step hM] at hd
  constructor
  · intro hf
    rw [if_pos hf] at hd
    have : (L.drop at_)[0]? = some M := by rw [← hd]; rfl
    rwa [List.getElem?_drop, Nat.add_zero] at this
  · intro hf e
    rw [if_neg (by rw [hf]; decide)] at hd
    have h2 : (L.drop at_)[0]? = some M := by rw [List.getElem?_drop, Nat.add_zero]; exact e
    rw [← hd] at h2
    have hmem : M ∈ fromM fit K (M + 1) := List.mem_of_getElem? h2
    unfold fromM at hmem
    have h3 := (List.mem_filter.1 hmem).1
    rw [List.mem_range'] at h3
    obtain ⟨i, _, hi⟩ := h3
    omega
theorem IRow.crow {W : World} {V base : Nat} {vs : List Int} (h : IRow W V vs) (hb : base ≤ V) (hs : vs.length ≤ maxLen) : CRow W base (some ⟨V, 0, none⟩) vs.length vs :=
  ⟨by rw [cAll_len, Nat.mul_one], .inr ⟨V, vs.length, _, rfl, hb, h, Nat.le_refl _, hs, by simp, by unfold cAll; rw [List.take_of_length_le (by simp)]⟩⟩
theorem covRow_at (n : Nat) (r : List Int) (k : Nat) (hk : k < (covRow n r).length) : (covRow n r)[k] = r.getD k 0 % 2 := by simp [covRow]
/-- A row under way. -/
theorem cov_step {n : Nat} {r : List Int} {k : Nat} (hk : k < n) (hr : k < r.length) : ((covRow n r).take k ++ List.replicate (n - k) 0).set k (r[k] % 2) = (covRow n r).take (k + 1) ++ List.replicate (n - (k + 1)) 0 := by
  have hl := covRow_len n r
  have hkk : k < (covRow n r).length := by omega
  have e1 : (covRow n r)[k] = r[k] % 2 := by rw [covRow_at, get_d hr]
  obtain ⟨d, hd⟩ : ∃ d, n - k = d + 1 := ⟨n - k - 1, by omega⟩
  rw [List.set_append, if_neg (by rw [List.length_take]; omega), hd, show n - (k + 1) = d by omega, List.take_add_one, List.getElem?_eq_getElem hkk, e1]
  have hm : (List.take k (covRow n r)).length = k := by rw [List.length_take]; omega
  rw [hm, Nat.sub_self, List.replicate_succ, List.set_cons_zero]
  simp
theorem cov_end {n : Nat} {r : List Int} {k : Nat} (hk : k ≤ n) (h : k = n ∨ r.length ≤ k) : (covRow n r).take k ++ List.replicate (n - k) 0 = covRow n r := by
  have hl := covRow_len n r
  refine List.ext_getElem (by simp; omega) (fun i h1 h2 => ?_)
  by_cases hi : i < k
  · rw [List.getElem_append_left (by simp; omega)]
    simp
  · rw [List.getElem_append_right (by simp; omega)]
    rcases h with rfl | h
    · omega
    · rw [covRow_at, List.getD_eq_getElem?_getD, List.getElem?_eq_none (by omega)]
      simp
theorem want_step {n k : Nat} (hk : k < n) : (List.replicate k (2 : Int) ++ List.replicate (n - k) 0).set k 2 = List.replicate (k + 1) 2 ++ List.replicate (n - (k + 1)) 0 := by
  obtain ⟨d, hd⟩ : ∃ d, n - k = d + 1 := ⟨n - k - 1, by omega⟩
  rw [List.set_append, if_neg (by simp), List.length_replicate, Nat.sub_self, hd, List.replicate_succ, List.set_cons_zero, show n - (k + 1) = d by omega, List.replicate_succ' (n := k)]
  simp
theorem PRows.below {W W' : World} {base : Nat} {v : Value} {l : List (List Int)} (h : PRows W base v l) (hb : ∀ b, base ≤ b → b < W.heap.size → W'.heap[b]? = W.heap[b]?) : PRows W' base v l := by
  obtain ⟨vs, hz, hl, hr⟩ := h
  exact ⟨vs, hz.same (fun k hk => hb k (hz.lt hk).1 (hz.lt hk).2), hl, fun i hi => let ⟨q, d, h1, h2⟩ := hr i hi; ⟨q, d, h1, h2.same hb⟩⟩
theorem colS_bd {h : Nat → Bool} {rs : List (List Int)} {n c : Nat} (hO : RowsOk rs n) : ∀ j, 0 ≤ colS h rs c j ∧ colS h rs c j ≤ 1048576 * j
  | 0 => by simp [colS]
  | j + 1 => by
    have ih := colS_bd (h := h) (c := c) hO j
    have h0 : 0 ≤ (rs.getD j []).getD c 0 ∧ (rs.getD j []).getD c 0 ≤ 1048576 := by
      rw [List.getD_eq_getElem?_getD]
      cases hx : (rs.getD j [])[c]? with
      | none => exact ⟨Int.le_refl _, by decide⟩
      | some x =>
        have hx' := List.mem_of_getElem? hx
        rw [List.getD_eq_getElem?_getD] at hx'
        cases hr : rs[j]? with
        | none => rw [hr] at hx'; simp at hx'
        | some r => rw [hr] at hx'; exact hO.nums r (List.mem_of_getElem? hr) x hx'
    unfold colS
    split <;> constructor <;> omega
theorem all_step (q : Nat) (ss : List Int) : ((List.range (q + 1)).all fun c => ss.getD c 0 == 1) = (((List.range q).all fun c => ss.getD c 0 == 1) && (ss.getD q 0 == 1)) := by
  rw [List.range_succ, List.all_append]
  simp
theorem cov_next {fit : Nat → Bool} {K M at_ : Nat} {L : List Nat} (hM : M < K) (hd : fromM fit K M = L.drop at_) : (fit M = true → fromM fit K (M + 1) = L.drop (at_ + 1)) ∧ (fit M = false → fromM fit K (M + 1) = L.drop at_) := by
  rw [fromM_step hM] at hd
  constructor
  · intro hf
    rw [if_pos hf] at hd
    rw [← List.drop_drop, ← hd]
    rfl
  · intro hf
    rwa [if_neg (by rw [hf]; decide)] at hd
set_option maxRecDepth 100000 in
set_option maxHeartbeats 8000000 in
theorem pickCover_walk (a : Option Addr) (c : Nat) (rs : List (List Int)) (cols : Int) (w : World) (hR : RowsAt w a rs) (hT : Tab w) :
    Calls Tryd.prog 7 #[.slice a rs.length c, .int .i64 cols] w fun e w' => e = .returned (.bool true) ∧ Below w.heap.size w w' := by
  obtain ⟨i3, hi3, hy0, hy1, hy2⟩ := info_parts Tryd.info3
  obtain ⟨i9, hi9, hz0, hz1, hz2⟩ := info_parts Tryd.info29
  have hmax : maxLen = 9223372036854775807 := rfl
  have htm := tmod_bd cols
  have HR := hid hR; have HT := hid hT
  have hsr := hR.small
  clear hR hT
  go_enter Tryd.func7, Tryd.ntmps7
  go_wp2_with fail
  refine (lives_any w HT.out).mono ?_
  rintro e w1 ⟨rfl, hb1⟩
  have HB1 := hid hb1
  clear hb1
  have hwr : IntKind.i64.wrap (cols.tmod 11) = cols.tmod 11 := IntWalk.i64_in _ (by constructor <;> omega)
  obtain ⟨t, ht⟩ : ∃ t, cols.tmod 11 = t := ⟨_, rfl⟩
  rw [ht] at hwr htm
  have HN : Hid (∃ N : Nat, N ≤ 10 ∧ ((0 ≤ t ∧ t = (N : Int)) ∨ (t < 0 ∧ IntKind.i64.wrap (-t) = (N : Int)))) := hid (by
    by_cases h0 : t < 0
    · obtain ⟨N, hN⟩ := Int.eq_ofNat_of_zero_le (show 0 ≤ -t by omega)
      exact ⟨N, by omega, .inr ⟨h0, by rw [hN]; exact IntWalk.i64_in _ (by constructor <;> omega)⟩⟩
    · obtain ⟨N, hN⟩ := Int.eq_ofNat_of_zero_le (show 0 ≤ t by omega)
      exact ⟨N, by omega, .inl ⟨by omega, hN⟩⟩)
  obtain ⟨N, hN10, hNt⟩ := HN.out
  clear HN htm
  go_upto_region 3 with fail
  rcases hNt with ⟨h0, hN⟩ | ⟨h0, hN⟩
  case' inl => subst hN
  all_goals
    clear hwr ht
    go_upto_region 6 with (first
      | (at_make; refine wpList_make_full _ rfl _ _ 29 rfl w1.heap.size 3 i3 (.int .i64 0) 1 Tryd.underlying29 hi3 hy0 hy1 .i64 .i64 _ _ N rfl rfl rfl rfl (by rw [hy2]; omega) (by omega) (Nat.le_refl _) ?_; intro w2 hown0 hgrow0)
      | fail)
    have hb2 : Below w1.heap.size w1 w2 := (Below.refl _ _).grown hgrow0 (Nat.le_refl _) (fun k e => by cases e)
    have hI2 := made_ints hown0
    have hV2 : w1.heap.size < w2.heap.size := (Array.getElem?_eq_some_iff.1 (show w2.heap[w1.heap.size]? = _ from hI2)).1
    have HB2 := hid (HB1.out.trans (hb2.mono HB1.out.size)); have HI2 := hid hI2
    have HV1 := hid HB1.out.size
    clear hb2 hI2 hown0 hgrow0 HB1 h0
    generalize w1.heap.size = V0 at *
    go_wp2_with fail
    go_loopw [8, 9] (fun lv iv wr => ∃ j : Nat, j ≤ rs.length ∧ j ≤ 8 ∧ iv = .int .i64 j ∧ PRows wr (V0 + 1) lv (covTo N rs j) ∧ Below (V0 + 1) w2 wr) (fun _ iv _ => 8 - (intOf iv).toNat)
    case atStart => exact ⟨0, Nat.zero_le _, Nat.zero_le _, rfl, ⟨[], OwnZ.nil _ _ _ _, rfl, fun i hi => absurd hi (Nat.not_lt_zero i)⟩, Below.refl _ _⟩
    case round =>
      rename World => wo
      obtain ⟨j, hj, hj8, rfl, hP, hb⟩ := hrel
      have HP := hid hP; have HB := hid hb
      have hVr : V0 + 1 ≤ wo.heap.size := Nat.le_trans hV2 hb.size
      have hBw : Below w.heap.size w wo := HB2.out.trans (hb.mono (by have := HV1.out; omega))
      by_cases hgo : j < rs.length ∧ j < 8
      · obtain ⟨hlt, h8⟩ := hgo
        · obtain ⟨b1, o1, p1, c1, rfl, hc, hrow⟩ := (HR.out.below hBw).cells j hlt
          have hgd : rs.getD j [] = rs[j] := by rw [List.getD_eq_getElem?_getD, List.getElem?_eq_getElem hlt]; rfl
          have HSU := hid (covTo_succ N rs j)
          rw [hgd] at HSU
          obtain ⟨r, hr⟩ : ∃ r, rs[j] = r := ⟨_, rfl⟩
          rw [hr] at hc hrow HSU
          have hrs := hrow.small
          have HC := hid hc; have HRO := hid hrow
          clear hc hrow hgd hr hP hb hBw
          go_upto_region 11 with (first
            | (at_make; refine wpList_make_full _ rfl _ _ 29 rfl wo.heap.size 3 i3 (.int .i64 0) 1 Tryd.underlying29 hi3 hy0 hy1 .i64 .i64 _ _ N rfl rfl rfl rfl (by rw [hy2]; omega) (by omega) (Nat.le_refl _) ?_; intro w3 hown0 hgrow0)
            | fail)
          have hb3 : Below wo.heap.size wo w3 := (Below.refl _ _).grown hgrow0 (Nat.le_refl _) (fun k e => by cases e)
          have HI3 := hid (made_ints hown0); have HB3 := hid hb3
          clear hb3 hown0 hgrow0
          go_wp2_with fail
          go_loopw [11] (fun kv wq => ∃ k : Nat, k ≤ N ∧ kv = .int .i64 k ∧ IRow wq wo.heap.size ((covRow N r).take k ++ List.replicate (N - k) 0) ∧ Below wo.heap.size wo wq) (fun kv _ => N - (intOf kv).toNat)
          case atStart => exact ⟨0, Nat.zero_le _, rfl, by simpa using HI3.out, HB3.out⟩
          case round =>
            obtain ⟨k, hk, rfl, hI, hbq⟩ := hrel
            have HI := hid hI; have HBq := hid hbq
            have q1 := below_cell hbq _ _ HC.out
            by_cases hkn : k < N
            · by_cases hkr : k < r.length
              · obtain ⟨b3, o3, rfl, q2⟩ := (HRO.out.below hbq).cells k hkr
                have q3 := hI.cell (j := k) (by simp [covRow_len]; omega)
                have q4 := hI.free k
                have hst := hI.set k (r[k] % 2)
                rw [cov_step hkn hkr] at hst
                obtain ⟨x, hx⟩ : ∃ x, r[k] = x := ⟨_, rfl⟩
                rw [hx] at q2 hst
                have hba := i64_and1 x
                have hx2 : 0 ≤ x % 2 ∧ x % 2 ≤ 1 := by omega
                have HS := hid hst
                obtain ⟨y, hy⟩ : ∃ y, x % 2 = y := ⟨_, rfl⟩
                rw [hy] at hba HS hx2
                clear hst hI hbq hx hy
                go_wp2_with fail
                go_roundw
                case rel => exact ⟨k + 1, by omega, by go_num, HS.out, HBq.out.setCell (p := ⟨wo.heap.size, k, none⟩) (Nat.le_refl _) _⟩
                case measure => simp [intOf]; omega
              · have hz := cov_end (n := N) (r := r) hk (.inr (by omega))
                rw [hz] at HI
                have hcr := IRow.crow (base := V0 + 1) HI.out hVr (by rw [covRow_len]; omega)
                rw [covRow_len] at hcr
                obtain ⟨vs, hzz, hlv, hrs'⟩ := HP.out
                have hvl : vs.length = j := by rw [hlv, covTo_len]
                obtain ⟨g, cap, w4, hr4, hz4, hf4⟩ := app_one 27 27 29 i9 _ 24 Tryd.underlying27 hi9 hz0 hz1 hz2 rfl (V0 + 1) u8 vs (.slice (some ⟨wo.heap.size, 0, none⟩) N N) _ (hzz.below HBq.out) rfl (by omega) (by omega) (Nat.le_trans hVr HBq.out.size)
                have hP4 := PRows.add (row := covRow N r) hzz hlv hrs' HBq.out hcr (by rw [covRow_len]; exact hz4) hf4
                rw [← HSU.out] at hP4
                rw [List.length_append, List.length_singleton, hvl] at hr4 hP4
                have HP4 := hid hP4
                have HB4 := hid ((HB.out.trans (HBq.out.mono hVr)).trans (hf4.below (fun b hb => (hzz.lt hb).1) (Nat.le_trans hVr HBq.out.size)))
                clear hP4 hf4 hz4 hzz hlv hrs' hcr hI hbq hz
                go_wp2_with (first
                  | (at_builtin; refine Lib.wpList_append_run _ rfl _ _ _ _ rfl _ _ rfl rfl _ _ hr4 ?_; clear hr4)
                  | fail)
                go_roundw
                case rel => exact ⟨j + 1, by omega, by omega, by go_num, HP4.out, HB4.out⟩
                case measure => simp [intOf]; omega
            · have hz := cov_end (n := N) (r := r) hk (.inl (by omega))
              rw [hz] at HI
              have hcr := IRow.crow (base := V0 + 1) HI.out hVr (by rw [covRow_len]; omega)
              rw [covRow_len] at hcr
              obtain ⟨vs, hzz, hlv, hrs'⟩ := HP.out
              have hvl : vs.length = j := by rw [hlv, covTo_len]
              obtain ⟨g, cap, w4, hr4, hz4, hf4⟩ := app_one 27 27 29 i9 _ 24 Tryd.underlying27 hi9 hz0 hz1 hz2 rfl (V0 + 1) u8 vs (.slice (some ⟨wo.heap.size, 0, none⟩) N N) _ (hzz.below HBq.out) rfl (by omega) (by omega) (Nat.le_trans hVr HBq.out.size)
              have hP4 := PRows.add (row := covRow N r) hzz hlv hrs' HBq.out hcr (by rw [covRow_len]; exact hz4) hf4
              rw [← HSU.out] at hP4
              rw [List.length_append, List.length_singleton, hvl] at hr4 hP4
              have HP4 := hid hP4
              have HB4 := hid ((HB.out.trans (HBq.out.mono hVr)).trans (hf4.below (fun b hb => (hzz.lt hb).1) (Nat.le_trans hVr HBq.out.size)))
              clear hP4 hf4 hz4 hzz hlv hrs' hcr hI hbq hz
              go_wp2_with (first
                | (at_builtin; refine Lib.wpList_append_run _ rfl _ _ _ _ rfl _ _ rfl rfl _ _ hr4 ?_; clear hr4)
                | fail)
              go_roundw
              case rel => exact ⟨j + 1, by omega, by omega, by go_num, HP4.out, HB4.out⟩
              case measure => simp [intOf]; omega
      · have hj8' := hj8
        have hown := covTo_len N rs j
        have hOK := cov_ok N rs j hN10 hj8
        have hE := cov_E N rs j hN10 hj8
        have hok := pkE_ok hOK
        rw [List.length_replicate] at hok
        obtain ⟨ow, how⟩ : ∃ ow, covTo N rs j = ow := ⟨_, rfl⟩
        rw [how] at hP hown hE hok
        obtain ⟨p8, c8, hu8⟩ := hP.form
        subst hu8
        rw [hown] at hP
        have HPW := hid hP; have HE := hid hE; have HOK := hid hok
        clear HP
        have HI0 : Hid (IRow wo V0 (List.replicate N 0)) := hid ((hb.block V0 (by omega)).trans HI2.out)
        have HBw := hid hBw
        have hVw := HV1.out
        clear hP hE hok hOK how hBw hb HB2 HI2 HR
        have hgo2 : ¬ j < rs.length ∨ (j < rs.length ∧ ¬ j < 8) := by omega
        clear hgo
        rcases hgo2 with hg | ⟨hg, hg8⟩
        all_goals
          go_wp2_with fail
          go_loopw [12] (fun kv wq => ∃ k : Nat, k ≤ N ∧ kv = .int .i64 k ∧ IRow wq V0 (List.replicate k 2 ++ List.replicate (N - k) 0) ∧ Fr (fun b => b = V0) wo wq) (fun kv _ => N - (intOf kv).toNat)
          case atStart => exact ⟨0, Nat.zero_le _, rfl, by simpa using HI0.out, Fr.refl _ _⟩
          case round =>
            rename World => wq
            obtain ⟨k, hk, rfl, hI, hf⟩ := hrel
            have HI := hid hI; have HF := hid hf
            by_cases hkn : k < N
            · have q3 := hI.cell (j := k) (by simp; omega)
              have q4 := hI.free k
              have hst := hI.set k 2
              rw [want_step hkn] at hst
              have HS := hid hst
              clear hst hI hf
              go_wp2_with fail
              go_roundw
              case rel => exact ⟨k + 1, by omega, by go_num, HS.out, HF.out.trans (fr_set _ _ _ _)⟩
              case measure => simp [intOf]; omega
            · have e1 : k = N := by omega
              subst e1
              rw [Nat.sub_self, List.replicate_zero, List.append_nil] at HI
              have hPq := HPW.out.below (W' := wq) (fun b h1 h2 => hf.same b h2 (by omega))
              have hRq := hPq.rows (by rw [hown]; omega)
              have hBq : Below w.heap.size w wq := HBw.out.trans (hf.below (fun b e => by omega) (by omega))
              have hL := list_any p8 c8 ow (some ⟨V0, 0, none⟩) k (List.replicate k 2) 65536 wq hRq.at (HI.out.ints (by simp; omega)) (HT.out.below hBq)
              rw [hown, List.length_replicate] at hL
              have HL := hid hL; have HRq := hid hRq; have HBq := hid hBq
              clear hL hPq hRq hBq hI hf
              go_wp2_with fail
              refine HL.out.mono ?_
              rintro e w7 ⟨hb7, (⟨h0', _⟩ | ⟨_, v, rfl, hz⟩)⟩
              · exact absurd HE.out h0'
              have hR7 := HRq.out.at.below hb7
              have HB7 := hid (HBq.out.trans (hb7.mono HBq.out.size))
              have HR7 := hid hR7
              obtain ⟨L, hLL⟩ : ∃ L, fitL ow (List.replicate k 2) = L := ⟨_, rfl⟩
              rw [hLL] at hz
              obtain ⟨p13, c13, rfl⟩ := hz.form
              rw [mAll_len] at hz ⊢
              have HZ := hid hz; have HLL := hid hLL
              have hK : 2 ^ j ≤ 256 := Nat.pow_le_pow_right (n := 2) (by omega) hj8'
              have hLn : L.length ≤ 65536 := by
                have h8 : L.length ≤ 2 ^ ow.length := by
                  rw [← hLL]
                  unfold fitL fromM
                  refine Nat.le_trans (List.length_filter_le _ _) ?_
                  simp
                rw [hown] at h8
                omega
              obtain ⟨hm1, _⟩ := all_mask j (by omega)
              clear hb7 hR7 hz hLL HL HRq HBq
              have HST0 : Hid (fromM (fitN ow (List.replicate k 2)) (2 ^ j) 0 = L.drop 0) := hid (by rw [← HLL.out, List.drop_zero]; unfold fitL; rw [hown])
              go_wp2_with fail
              go_loopw [15, 16] (fun av mk wr => ∃ A M : Nat, av = .int .i64 A ∧ mk = .int .u32 M ∧ M ≤ 2 ^ j ∧ A ≤ L.length ∧ fromM (fitN ow (List.replicate k 2)) (2 ^ j) M = L.drop A ∧ wr = w7) (fun _ mk _ => 2 ^ j - (intOf mk).toNat)
              case atStart => exact ⟨0, 0, rfl, rfl, Nat.zero_le _, Nat.zero_le _, HST0.out, rfl⟩
              case round =>
                obtain ⟨A, M, rfl, rfl, hM, hA, hd, rfl⟩ := hrel
                have HD := hid hd
                clear hd
                by_cases hMK : M < 2 ^ j
                · have hMz : (M : Int) < ((2 ^ j : Nat) : Int) := by omega
                  obtain ⟨x2, hx2⟩ : ∃ x2, ((2 ^ j : Nat) : Int) = x2 := ⟨_, rfl⟩
                  rw [hx2] at hm1 hMz
                  have hcw := cov_whole (M := M) HOK.out
                  have HCW := hid hcw
                  have hdx : (decide ((M : Int) < x2)) = true := decide_eq_true hMz
                  clear hcw hx2 hMz
                  go_wp2_with fail
                  clear hdx
                  go_loopw [17, 18] (fun cv kv wr' => ∃ q : Nat, q ≤ k ∧ kv = .int .i64 q ∧ cv = .bool ((List.range q).all fun c => (sumN ow k M).getD c 0 == 1) ∧ wr' = wr) (fun _ kv _ => k - (intOf kv).toNat)
                  case atStart => exact ⟨0, Nat.zero_le _, rfl, rfl, rfl⟩
                  case round =>
                    rename World => wt
                    obtain ⟨q, hq, rfl, rfl, rfl⟩ := hrel
                    by_cases hqk : q < k
                    · have hal := all_step q (sumN ow k M)
                      have hco := sumN_col (M := M) HOK.out hqk (by omega)
                      rw [hown] at hco
                      rw [hco] at hal
                      obtain ⟨cv, hcv⟩ : ∃ cv, ((List.range q).all fun c => (sumN ow k M).getD c 0 == 1) = cv := ⟨_, rfl⟩
                      rw [hcv] at hal ⊢
                      have HAL := hid hal
                      clear hal hco hcv
                      go_wp2_with fail
                      go_loopw [19, 20] (fun mv iv wr'' => ∃ i : Nat, i ≤ j ∧ iv = .int .i64 i ∧ mv = .int .i64 (colS (fun i => M.testBit i) ow q i) ∧ wr'' = wt) (fun _ iv _ => j - (intOf iv).toNat)
                      case atStart => exact ⟨0, Nat.zero_le _, rfl, rfl, rfl⟩
                      case round =>
                        rename World => wz
                        obtain ⟨i, hi, rfl, rfl, rfl⟩ := hrel
                        by_cases hij : i < j
                        · have hone := has_one (M : Int) i (by omega) (by omega)
                          rw [Nat.min_eq_left (by omega), hasB_bit M i (by omega)] at hone
                          have hcs : colS (fun i => M.testBit i) ow q (i + 1) = colS (fun i => M.testBit i) ow q i + if M.testBit i = true then (ow.getD i []).getD q 0 else 0 := rfl
                          have hbd := colS_bd (h := fun i => M.testBit i) (c := q) HOK.out i
                          obtain ⟨x, hx⟩ : ∃ x, colS (fun i => M.testBit i) ow q i = x := ⟨_, rfl⟩
                          rw [hx] at hcs hbd ⊢
                          have HCS := hid hcs
                          clear hcs hx
                          cases htb : M.testBit i with
                          | false =>
                            rw [htb] at hone HCS
                            clear htb
                            go_wp2_with fail
                            go_roundw
                            case rel => exact ⟨i + 1, by omega, by go_num, by rw [HCS.out]; simp, trivial⟩
                            case measure => simp [intOf]; omega
                          | true =>
                            rw [htb] at hone HCS
                            obtain ⟨b5, o5, p5, c5, hpp, q5, hr5⟩ := HR7.out.cells i (by rw [hown]; exact hij)
                            have hlr := HOK.out.len ow[i] (List.getElem_mem _)
                            obtain ⟨b6, o6, hp6, q6⟩ := hr5.cells q (by rw [hlr]; exact hqk)
                            have hnum := HOK.out.nums ow[i] (List.getElem_mem _) (ow[i]'(by rw [hown]; exact hij))[q] (List.getElem_mem _)
                            have hgd : (ow.getD i []).getD q 0 = (ow[i]'(by rw [hown]; exact hij))[q]'(by rw [hlr]; exact hqk) := by
                              rw [List.getD_eq_getElem?_getD (l := ow), List.getElem?_eq_getElem (by rw [hown]; exact hij)]
                              exact get_d (by rw [Option.getD_some, hlr]; exact hqk)
                            rw [hgd] at HCS
                            rw [hlr] at q5
                            generalize (ow[i]'(by rw [hown]; exact hij))[q]'(by rw [hlr]; exact hqk) = y at HCS q6 hnum
                            subst hpp hp6
                            have hw3 : IntKind.i64.wrap (x + y) = x + y := IntWalk.i64_in _ (by constructor <;> omega)
                            clear htb hgd hr5 hlr
                            go_wp2_with fail
                            go_roundw
                            case rel => exact ⟨i + 1, by omega, by go_num, by rw [HCS.out]; simp, trivial⟩
                            case measure => simp [intOf]; omega
                        · have e1 : i = j := by omega
                          subst e1
                          cases cv
                          all_goals
                            go_wp2_with fail
                            go_roundw
                            case rel => exact ⟨q + 1, by omega, by go_num, by rw [HAL.out]; rfl, trivial⟩
                            case measure => simp [intOf]; omega
                    · have e1 : q = k := by omega
                      subst e1
                      obtain ⟨l1, l2⟩ := cov_listed hMK HD.out
                      obtain ⟨n1, n2⟩ := cov_next hMK HD.out
                      rw [← HCW.out]
                      obtain ⟨fv, hfv⟩ : ∃ fv, fitN ow (List.replicate q 2) M = fv := ⟨_, rfl⟩
                      rw [hfv] at l1 l2 n1 n2 ⊢
                      have hwM : IntKind.u32.wrap ((M : Int) + 1) = ((M + 1 : Nat) : Int) := by rw [IntKind.wrap_u32']; omega
                      have HM1 : Hid (2 ^ j - (M + 1) < 2 ^ j - M) := hid (by omega)
                      have HMK := hid hMK
                      clear hfv HCW
                      cases fv with
                      | true =>
                        have hAM := l1 rfl
                        have hAl : A < L.length := (List.getElem?_eq_some_iff.1 hAM).1
                        obtain ⟨g, hg1, _, hc⟩ := HZ.out.cell (i := A) (by rw [mAll_len]; exact hAl)
                        have hc2 : wt.cell? ⟨g, A, none⟩ = some (.int .u32 M) := by
                          rw [Nat.zero_add] at hc
                          rw [hc]
                          unfold mAll
                          rw [List.getElem_map, (List.getElem?_eq_some_iff.1 hAM).2]
                        have HN1 := hid (n1 rfl)
                        subst hg1
                        have hAz : (A : Int) < (L.length : Int) := by omega
                        have hAz2 : (A : Int) ≤ 65536 := by omega
                        clear l1 l2 n1 n2 hAM hc hMK
                        go_wp2_with fail
                        go_roundw
                        case rel => exact ⟨A + 1, M + 1, by go_num, rfl, HMK.out, by omega, HN1.out, trivial⟩
                        case measure => have := HM1.out; simp [intOf]; omega
                      | false =>
                        have hAM := l2 rfl
                        have HN1 := hid (n2 rfl)
                        by_cases hAl : A < L.length
                        · obtain ⟨g, hg1, _, hc⟩ := HZ.out.cell (i := A) (by rw [mAll_len]; exact hAl)
                          have hc2 : wt.cell? ⟨g, A, none⟩ = some (.int .u32 ((L[A] : Nat) : Int)) := by
                            rw [Nat.zero_add] at hc
                            rw [hc]
                            unfold mAll
                            rw [List.getElem_map]
                          have hne : (((L[A] : Nat) : Int) == (M : Int)) = false := by
                            have h9 : L[A] ≠ M := fun e => hAM (by rw [List.getElem?_eq_getElem hAl, e])
                            simp
                            omega
                          obtain ⟨y, hy⟩ : ∃ y, ((L[A] : Nat) : Int) = y := ⟨_, rfl⟩
                          rw [hy] at hc2 hne
                          subst hg1
                          have hAz : (A : Int) < (L.length : Int) := by omega
                          clear l1 l2 n1 n2 hAM hc hy hMK
                          go_wp2_with fail
                          go_roundw
                          case rel => exact ⟨A, M + 1, rfl, rfl, HMK.out, by omega, HN1.out, trivial⟩
                          case measure => have := HM1.out; simp [intOf]; omega
                        · have hAz : ¬ (A : Int) < (L.length : Int) := by omega
                          clear l1 l2 n1 n2 hAM hMK
                          go_wp2_with fail
                          go_roundw
                          case rel => exact ⟨A, M + 1, rfl, rfl, HMK.out, by omega, HN1.out, trivial⟩
                          case measure => have := HM1.out; simp [intOf]; omega
                · have hMz : ¬ (M : Int) < ((2 ^ j : Nat) : Int) := by omega
                  have hAL : L.length ≤ A := by
                    have h9 := HD.out
                    rw [fromM_end (by omega)] at h9
                    exact List.drop_eq_nil_iff.1 h9.symm
                  obtain ⟨x2, hx2⟩ : ∃ x2, ((2 ^ j : Nat) : Int) = x2 := ⟨_, rfl⟩
                  rw [hx2] at hm1 hMz
                  have hdx : (decide ((M : Int) < x2)) = false := decide_eq_false hMz
                  have hAe : ((A : Int) == (L.length : Int)) = true := by simp; omega
                  clear hMz hx2 hMK
                  go_wp2_with fail
                  go_ret
                  exact ⟨rfl, HB7.out⟩
end Go.Proofs.YteakakonjfcpmaaDoor
