/- AgendaSame's walk. -/
import Derived.Test.YtchjdpmgocapjaaAgIn
namespace Go.Proofs.Ytchjdpmgocapjaa
open Go.RowKit Go.Shelf

def tsL (m i : Nat) : List Int := (List.range i).map (tkA m)
def osL (c : Nat) : List Int := (List.range c).map fun k => ((2 * k + 2 : Nat) : Int)
theorem ts_succ (m i : Nat) : tsL m (i + 1) = tsL m i ++ [tkA m i] := by simp [tsL, List.range_succ]
theorem os_succ (c : Nat) : osL (c + 1) = osL c ++ [((2 * c + 2 : Nat) : Int)] := by simp [osL, List.range_succ]
theorem ts_len (m i : Nat) : (tsL m i).length = i := by simp [tsL]
theorem os_len (c : Nat) : (osL c).length = c := by simp [osL]
/-- The memory behind i rounds of the first loop. -/
def Ph1 (w wr : World) (A B : Nat) (ws fs bs : List Int) (vt vo : Value) (i : Nat) : Prop := ∃ Fa Fb, Mem w wr A B ((ws.length + bs.length + 1 : Nat) : Int) ((i + min i bs.length : Nat) : Int) (manyA (at0 fs) (at0 bs) bs.length i) ((ws.length + 1 : Nat) : Int) (i : Int) (rowB (at0 ws) i) vt (tsL bs.length i) vo (osL (min i bs.length)) Fa Fb
theorem alike_peek {LA LB : List Th} {n k : Nat} (hAl : Alike LA LB) (hLen : LA.length = n - k) : ∃ x ta tb : Int, ∃ ok : Bool, peekV LA = .tuple #[.int .i64 x, .int .i64 ta, .bool ok] ∧ peekV LB = .tuple #[.int .i64 x, .int .i64 tb, .bool ok] ∧ ok = decide ((k : Int) < (n : Int)) := by
  have hlenAB := hAl.len
  by_cases hlt : k < n
  · have hnA : nxI LA < LA.length := nx_lt (fun e => by rw [e] at hLen; simp only [List.length_nil] at hLen; omega)
    have hnB : nxI LB < LB.length := by rw [← hAl.nx]; omega
    refine ⟨LA[nxI LA].x, LA[nxI LA].tk, LB[nxI LB].tk, true, peek_eq hnA, ?_, (decide_eq_true (by omega)).symm⟩
    rw [peek_eq hnB]
    have h9 := (hAl.at_ _ hnA (by omega)).1
    have h8 : LB[nxI LB].x = (LB[nxI LA]'(by omega)).x := by congr 2; exact hAl.nx.symm
    rw [h8, h9]
  · exact ⟨0, 0, 0, false, peek_none (by omega), peek_none (by omega), (decide_eq_false (by omega)).symm⟩
/-- .. of the later ones. -/
def Ph2 (w wr : World) (A B : Nat) (ws bs : List Int) (vt vo : Value) (LA LB : List Th) : Prop := ∃ Fa Fb, Mem w wr A B ((ws.length + bs.length + 1 : Nat) : Int) ((ws.length + min ws.length bs.length : Nat) : Int) LA ((ws.length + 1 : Nat) : Int) (ws.length : Int) LB vt (tsL bs.length ws.length) vo (osL (min ws.length bs.length)) Fa Fb
theorem os_at {c q : Nat} (h : q < (osL c).length) : (osL c)[q] = ((2 * q + 2 : Nat) : Int) := by simp [osL]
theorem ts_at {m n q : Nat} (h : q < (tsL m n).length) : (tsL m n)[q] = tkA m q := by simp [tsL]
set_option maxRecDepth 100000 in
set_option maxHeartbeats 4000000 in
theorem same_walk (a0 : Option Addr) (cap0 : Nat) (ws : List Int) (a1 : Option Addr) (cap1 : Nat) (fs : List Int) (a2 : Option Addr) (cap2 : Nat) (bs : List Int) (w : World) (h0 : IntsAt w a0 ws) (h1 : IntsAt w a1 fs) (h2 : IntsAt w a2 bs) (s0 : ws.length ≤ 140737488355328) (s2 : bs.length ≤ 140737488355328) :
    Calls Try.prog 6 #[.slice a0 ws.length cap0, .slice a1 fs.length cap1, .slice a2 bs.length cap2] w fun e w' => e = .returned (.bool true) ∧ Below w.heap.size w w' := by
  go_enter Try.func6, Try.ntmps6
  go_wp2_with fail
  refine (lives_any w).mono ?_
  rintro e w1 ⟨rfl, hb1⟩
  have HB1 := hid hb1
  clear hb1
  by_cases hbig : 65536 ≤ ws.length + bs.length
  · have hb' : (65536 : Int) ≤ (ws.length : Int) + (bs.length : Int) := by omega
    go_wp2_with fail
    go_ret
    exact ⟨rfl, HB1.out⟩
  · have hcond : decide ((65536 : Int) ≤ (ws.length : Int) + (bs.length : Int)) = false := by rw [decide_eq_false_iff_not]; omega
    have HBG : Hid (ws.length + bs.length < 65536) := hid (by omega)
    clear hbig
    have HN1 := hid (new_any ((ws.length : Int) + (bs.length : Int) + 1) (by omega) (by have := HBG.out; omega) w1)
    go_wp2_with fail
    refine HN1.out.mono ?_
    rintro e w2 ⟨A, Fa, rfl, hA, hb2, hFa⟩
    have HA := hid hA; have HB2 := hid hb2; have HFA := hid hFa
    have HN2 := hid (new_any ((ws.length : Int) + 1) (by omega) (by have := HBG.out; omega) w2)
    clear hA hb2 hFa
    go_wp2_with fail
    refine HN2.out.mono ?_
    rintro e w3 ⟨B, Fb, rfl, hB, hb3, hFb⟩
    have hM : Mem w w3 A B ((ws.length + bs.length + 1 : Nat) : Int) ((0 + min 0 bs.length : Nat) : Int) (manyA (at0 fs) (at0 bs) bs.length 0) ((ws.length + 1 : Nat) : Int) ((0 : Nat) : Int) (rowB (at0 ws) 0) (.slice none 0 0) (tsL bs.length 0) (.slice none 0 0) (osL (min 0 bs.length)) Fa Fb := by
      have z : min 0 bs.length = 0 := by omega
      have s1 := HB1.out.size
      have s2 := HB2.out.size
      rw [z]
      refine ⟨HA.out.below hb3, hB, iown_nil _, iown_nil _, fun q ha hb => ?_, fun q hq => (by cases hq), fun q hq => (by cases hq), fun q hq => ?_, fun q hq => ?_, (HB1.out.trans (HB2.out.mono s1)).trans (hb3.mono (Nat.le_trans s1 s2))⟩
      · have := HA.out.lt q ha; have := hFb q hb; omega
      · have := HFA.out q hq; omega
      · have := hFb q hq; omega
    have HM : Hid (Ph1 w w3 A B ws fs bs (.slice none 0 0) (.slice none 0 0) 0) := hid ⟨Fa, Fb, hM⟩
    clear hB hb3 hFb hM HA HFA HB2 HN1 HN2 HB1
    go_wp2_with fail
    go_loopw [12, 13, 14] (fun vt vo iv wr => ∃ i : Nat, iv = .int .i64 i ∧ i ≤ ws.length ∧ Ph1 w wr A B ws fs bs vt vo i) (fun _ _ iv _ => ws.length - (intOf iv).toNat)
    case atStart => exact ⟨0, rfl, by omega, HM.out⟩
    case round =>
      obtain ⟨i, rfl, hin, hP⟩ := hrel
      by_cases hi : i < ws.length
      · obtain ⟨Fa, Fb, hM⟩ := hP
        obtain ⟨b0, o0, rfl, c0⟩ := h0.low hM.low i hi
        have HM2 := hid hM
        have hiz : (i : Int) < (ws.length : Int) := by omega
        have HC0 : Hid (∀ W, Below w.heap.size w W → W.cell? ⟨b0, o0 + i, none⟩ = some (.int .i64 (at0 ws i))) := hid (fun W hb => by
          obtain ⟨b9, o9, e9, c9⟩ := h0.low hb i hi
          cases e9
          exact c9)
        have HML := hid hM.low
        clear hM c0
        have hib : (i : Int) ≤ 65536 := by have := HBG.out; omega
        have HPU : Hid (Calls Try.prog 19 #[.pointer (some ⟨A, 0, none⟩), .int .i64 i, .int .i64 (at0 fs i)] wr fun e w' => e = .returned (.tuple #[.int .i64 (tkA bs.length i), .int .i64 0]) ∧ AgEnd wr w' A ((ws.length + bs.length + 1 : Nat) : Int) (tkA bs.length i) (manyA (at0 fs) (at0 bs) bs.length i ++ [oneA (at0 fs) bs.length i]) Fa) := hid (by
          have h9 := push_more HM2.out.a i (at0 fs i) (by rw [many_len]; have := HBG.out; omega) (by have := HBG.out; omega)
          have e9 : ((i + min i bs.length : Nat) : Int) + 1 = tkA bs.length i := by unfold tkA; omega
          rw [e9] at h9
          exact h9)
        by_cases hfi : i < fs.length
        have hfz : (i : Int) < (fs.length : Int) := by omega
        obtain ⟨b1, o1, rfl, c1⟩ := h1.low HML.out i hfi
        go_wp2_with fail
        refine HPU.out.mono ?_
        rotate_left
        have hfz : ¬ (i : Int) < (fs.length : Int) := by omega
        have hf0 := at0_ge hfi
        rw [hf0] at HPU
        go_wp2_with fail
        refine HPU.out.mono ?_
        all_goals
          rintro e w4 ⟨rfl, he4⟩
          obtain ⟨Fa4, hM4⟩ := HM2.out.opA he4
          obtain ⟨vt5, w5, hr5, hI5, hf5, hv5⟩ := app_int _ _ (tkA bs.length i) w4 hM4.t (by rw [ts_len]; have := HBG.out; omega)
          rw [← ts_succ] at hI5
          have hM5 := hM4.opT hI5 hf5 hv5
          have HR5 := hid hr5; have HM5 := hid hM5
          clear he4 hM4 hI5 hf5 hv5 hr5 HPU HM2 hM5
          by_cases hbi : i < bs.length
          · have hbz : (i : Int) < (bs.length : Int) := by omega
            have HPU : Hid (Calls Try.prog 19 #[.pointer (some ⟨A, 0, none⟩), .int .i64 (-1), .int .i64 (at0 bs i)] w5 fun e w' => e = .returned (.tuple #[.int .i64 ((2 * i + 2 : Nat) : Int), .int .i64 0]) ∧ AgEnd w5 w' A ((ws.length + bs.length + 1 : Nat) : Int) ((i + 1 + min (i + 1) bs.length : Nat) : Int) (manyA (at0 fs) (at0 bs) bs.length (i + 1)) Fa4) := hid (by
              have h9 := push_more HM5.out.a (-1) (at0 bs i) (by simp only [List.length_append, many_len, List.length_singleton]; have := HBG.out; omega) (by unfold tkA; have := HBG.out; omega)
              have e9 : tkA bs.length i + 1 = ((2 * i + 2 : Nat) : Int) := by unfold tkA; omega
              have e8 : ((i + 1 + min (i + 1) bs.length : Nat) : Int) = ((2 * i + 2 : Nat) : Int) := by omega
              rw [e9] at h9
              rw [many_succ, if_pos hbi, e8]
              exact h9)
            obtain ⟨b2, o2, rfl, c2⟩ := h2.low HM5.out.low i hbi
            go_wp2_with (first
              | (at_builtin; refine Lib.wpList_append_run _ rfl _ _ _ _ rfl _ _ rfl rfl _ _ HR5.out ?_; clear HR5)
              | fail)
            refine HPU.out.mono ?_
            rintro e w6 ⟨rfl, he6⟩
            obtain ⟨Fa6, hM6⟩ := HM5.out.opA he6
            obtain ⟨vo7, w7, hr7, hI7, hf7, hv7⟩ := app_int _ _ ((2 * i + 2 : Nat) : Int) w6 hM6.o (by rw [os_len]; have := HBG.out; omega)
            have hmi : min i bs.length = i := by omega
            have hmi2 : min (i + 1) bs.length = i + 1 := by omega
            rw [hmi, ← os_succ, ← hmi2] at hI7
            have hM7 := hM6.opO hI7 hf7 hv7
            have HR7 := hid hr7; have HM7 := hid hM7
            have c8 := HC0.out w7 hM7.low
            have HPB := hid (push_more hM7.b i (at0 ws i) (by rw [row_len]; omega) (by omega))
            clear he6 hM6 hI7 hf7 hv7 hr7 HPU HM5 hM7 hmi hmi2
            go_wp2_with (first
              | (at_builtin; refine Lib.wpList_append_run _ rfl _ _ _ _ rfl _ _ rfl rfl _ _ HR7.out ?_; clear HR7)
              | fail)
            refine HPB.out.mono ?_
            rintro e w8 ⟨rfl, he8⟩
            obtain ⟨Fb8, hM8⟩ := HM7.out.opB he8
            have HM8 := hid hM8
            clear he8 hM8 HPB HM7
            go_wp2_with fail
            go_roundw
            case rel =>
              refine ⟨i + 1, by go_num, by omega, Fa6, Fb8, ?_⟩
              have h9 := HM8.out
              rw [row_succ]
              exact h9
            case measure => simp [intOf]; omega
          · have hbz : ¬ (i : Int) < (bs.length : Int) := by omega
            have c8 := HC0.out w5 HM5.out.low
            have HPB := hid (push_more HM5.out.b i (at0 ws i) (by rw [row_len]; omega) (by omega))
            go_wp2_with (first
              | (at_builtin; refine Lib.wpList_append_run _ rfl _ _ _ _ rfl _ _ rfl rfl _ _ HR5.out ?_; clear HR5)
              | fail)
            refine HPB.out.mono ?_
            rintro e w8 ⟨rfl, he8⟩
            obtain ⟨Fb8, hM8⟩ := HM5.out.opB he8
            have HM8 := hid hM8
            clear he8 hM8 HPB HM5
            go_wp2_with fail
            go_roundw
            case rel =>
              refine ⟨i + 1, by go_num, by omega, Fa4, Fb8, ?_⟩
              have h9 := HM8.out
              have e9 : ((i + 1 + min (i + 1) bs.length : Nat) : Int) = tkA bs.length i := by unfold tkA; omega
              rw [row_succ, many_succ, if_neg hbi, List.append_nil, e9, show min (i + 1) bs.length = min i bs.length by omega]
              exact h9
            case measure => simp [intOf]; omega
      · obtain rfl : i = ws.length := by omega
        have hP2 : Ph2 w wr A B ws bs u12 u13 (lessA (at0 fs) (at0 bs) bs.length ws.length (min ws.length bs.length - 0)) (rowB (at0 ws) ws.length) := by
          rw [Nat.sub_zero, less_all]
          exact hP
        obtain ⟨pt, ct, rfl⟩ : ∃ p c, u12 = .slice p ws.length c := by obtain ⟨Fa, Fb, hM⟩ := hP; obtain ⟨p, c, h⟩ := hM.t.form; rw [ts_len] at h; exact ⟨p, c, h⟩
        obtain ⟨po, co, rfl⟩ : ∃ p c, u13 = .slice p (min ws.length bs.length) c := by obtain ⟨Fa, Fb, hM⟩ := hP; obtain ⟨p, c, h⟩ := hM.o.form; rw [os_len] at h; exact ⟨p, c, h⟩
        have HP2 := hid hP2
        obtain ⟨c, hc⟩ : ∃ c, min ws.length bs.length = c := ⟨_, rfl⟩
        have HC := hid hc
        have hcn : (c : Int) ≤ 65536 := by have := HBG.out; omega
        rw [hc]
        clear hP hP2 hc hi hin HM
        go_wp2_with fail
        go_loopw [18] (fun jv wr => ∃ j : Nat, jv = .int .i64 j ∧ j ≤ c ∧ Ph2 w wr A B ws bs (.slice pt ws.length ct) (.slice po c co) (lessA (at0 fs) (at0 bs) bs.length ws.length (c - j)) (rowB (at0 ws) ws.length)) (fun jv _ => c - (intOf jv).toNat)
        case atStart => exact ⟨0, rfl, by omega, by have h9 := HP2.out; rw [HC.out] at h9; exact h9⟩
        case round =>
          obtain ⟨j, rfl, hj, hP⟩ := hrel
          by_cases hjc : j < c
          · obtain ⟨Fa, Fb, hM⟩ := hP
            obtain ⟨q, hq⟩ : ∃ q, c - 1 - j = q := ⟨_, rfl⟩
            have hqz : (c : Int) - 1 - (j : Int) = (q : Int) := by omega
            have hqc : q < c := by omega
            have hol : (osL (min ws.length bs.length)).length = c := by rw [os_len]; exact HC.out
            obtain ⟨g, rfl, hcl, hcc, hcm, c1⟩ := hM.o.cell q (by rw [hol]; exact hqc)
            rw [os_at] at c1
            have HDR := hid (drop_any hM.a ((2 * q + 2 : Nat) : Int) (by unfold Is64; omega))
            have hjq : c - j = q + 1 := by omega
            have hjq2 : c - (j + 1) = q := by omega
            rw [hjq, less_drop _ _ _ _ _ (by rw [HC.out]; exact hqc)] at HDR
            have HM3 := hid hM
            have HJQ2 := hid hjq2
            have hjz : (j : Int) < (c : Int) := by omega
            have hqz2 : (q : Int) < (c : Int) := by omega
            clear hM hq hjq hjq2 hol hcl
            go_wp2_with fail
            refine HDR.out.mono ?_
            rintro e w4 ⟨rfl, he4⟩
            obtain ⟨Fa4, hM4⟩ := HM3.out.opA he4
            have HM4 := hid hM4
            clear he4 hM4 HM3 HDR
            go_wp2_with fail
            go_roundw
            case rel => exact ⟨j + 1, by go_num, by omega, Fa4, Fb, by rw [HJQ2.out]; exact HM4.out⟩
            case measure => simp [intOf]; omega
          · obtain rfl : j = c := by omega
            have hP3 : Ph2 w wr A B ws bs (.slice pt ws.length ct) (.slice po j co) (turnA (at0 fs) (at0 ws) bs.length ws.length (ws.length - 0)) (rowB (at0 ws) ws.length) := by
              rw [Nat.sub_self, less_none _ _ (at0 ws)] at hP
              exact hP
            have HP3 := hid hP3
            clear hP hP3 hjc hj HP2
            go_wp2_with fail
            go_loopw [19] (fun jv wr => ∃ k : Nat, jv = .int .i64 k ∧ k ≤ ws.length ∧ Ph2 w wr A B ws bs (.slice pt ws.length ct) (.slice po j co) (turnA (at0 fs) (at0 ws) bs.length ws.length (ws.length - k)) (rowB (at0 ws) ws.length)) (fun jv _ => ws.length - (intOf jv).toNat)
            case atStart => exact ⟨0, rfl, by omega, HP3.out⟩
            case round =>
              obtain ⟨k, rfl, hk, hP⟩ := hrel
              by_cases hkn : k < ws.length
              · obtain ⟨Fa, Fb, hM⟩ := hP
                obtain ⟨q, hq⟩ : ∃ q, ws.length - 1 - k = q := ⟨_, rfl⟩
                have hqz : (ws.length : Int) - 1 - (k : Int) = (q : Int) := by omega
                have hqc : q < ws.length := by omega
                have htl : (tsL bs.length ws.length).length = ws.length := ts_len _ _
                obtain ⟨g, rfl, hcl, hcc, hcm, c1⟩ := hM.drew.t.cell q (by rw [htl]; exact hqc)
                rw [ts_at] at c1
                obtain ⟨b0, o0, rfl, c0⟩ := h0.low hM.drew.low q hqc
                have HDR := hid (weigh_any hM.drew.a (tkA bs.length q) (at0 ws q) (by unfold Is64 tkA; omega))
                have hjq : ws.length - k = q + 1 := by omega
                have hjq2 : ws.length - (k + 1) = q := by omega
                rw [hjq, turn_step, turn_has _ _ _ _ _ hqc] at HDR
                have HM3 := hid hM.drew
                have HJQ2 := hid hjq2
                have hkz : (k : Int) < (ws.length : Int) := by omega
                have hqz2 : (q : Int) < (ws.length : Int) := by omega
                clear hM hq hjq hjq2 htl hcl
                go_wp2_with fail
                go_region_with ((first
                  | (go_at_call 23; refine Calls.mono HDR.out ?_; rintro e w4 ⟨rfl, he4⟩; have HE4 := hid he4; clear he4)
                  | fail))
                all_goals
                  obtain ⟨Fa4, hM4⟩ := HM3.out.opA HE4.out
                  have HM4 := hid hM4
                  clear hM4
                  go_wp2_with fail
                  go_roundw
                  case rel => exact ⟨k + 1, by go_num, by omega, Fa4, Fb, by rw [HJQ2.out]; exact HM4.out⟩
                  case measure => simp [intOf]; omega
              · obtain rfl : k = ws.length := by omega
                rw [Nat.sub_self] at hP
                have HP4 := hid hP
                clear hP hkn hk HP3
                go_wp2_with fail
                go_loopw [22] (fun jv wr => ∃ k : Nat, jv = .int .i64 k ∧ k ≤ ws.length + 1 ∧ ∃ LA LB, Alike LA LB ∧ LA.length = ws.length - k ∧ Ph2 w wr A B ws bs (.slice pt ws.length ct) (.slice po j co) LA LB) (fun jv _ => ws.length + 1 - (intOf jv).toNat)
                case atStart => exact ⟨0, rfl, by omega, _, _, alike_end _ _ _ _, by simp [turnA], HP4.out⟩
                case round =>
                  obtain ⟨k, rfl, hk, LA, LB, hAl, hLen, Fa, Fb, hM⟩ := hrel
                  have hlenAB := hAl.len
                  have hlast : ((ws.length + min ws.length bs.length : Nat) : Int) ≤ 9223372036854775807 := by have := HBG.out; omega
                  have hpop : Alike (popL LA) (popL LB) ∧ (popL LA).length = ws.length - (k + 1) := by
                    refine ⟨by unfold popL; rw [hAl.nx]; exact hAl.erase _, ?_⟩
                    unfold popL
                    rw [List.length_eraseIdx]
                    split
                    · omega
                    · rename_i hx
                      have : LA = [] := Classical.byContradiction fun h => hx (nx_lt h)
                      subst this
                      simp only [List.length_nil] at hLen ⊢
                      omega
                  have HPOP := hid hpop
                  have HPA := hid (pop_any hM.a hlast)
                  have HM5 := hid hM
                  by_cases hkn : k ≤ ws.length
                  · obtain ⟨x, ta, tb, ok, hvA, hvB, hok⟩ : ∃ x ta tb : Int, ∃ ok : Bool, peekV LA = .tuple #[.int .i64 x, .int .i64 ta, .bool ok] ∧ peekV LB = .tuple #[.int .i64 x, .int .i64 tb, .bool ok] ∧ ok = decide ((k : Int) < (ws.length : Int)) := alike_peek hAl hLen
                    rw [hvA] at HPA
                    have HVB := hid hvB; have HOK := hid hok
                    have hkz : (k : Int) ≤ (ws.length : Int) := by omega
                    clear hAl hLen hM hlenAB hpop hvA hvB hok
                    go_wp2_with fail
                    refine HPA.out.mono ?_
                    rintro e w5 ⟨rfl, he5⟩
                    obtain ⟨Fa5, hM5⟩ := HM5.out.opA he5
                    have HM6 := hid hM5
                    have HPB := hid (pop_any hM5.b (by have := HBG.out; omega))
                    rw [HVB.out] at HPB
                    clear he5 hM5 HM5 HPA
                    go_wp2_with fail
                    refine HPB.out.mono ?_
                    rintro e w6 ⟨rfl, he6⟩
                    obtain ⟨Fb6, hM6⟩ := HM6.out.opB he6
                    have HM7 := hid hM6
                    have hxx : (x != x) = false := by simp
                    have hoo : (ok != ok) = false := by simp
                    have hok2 : (!(ok == decide (k < ws.length))) = false := by rw [HOK.out]; simp
                    clear he6 hM6 HM6 HPB
                    go_wp2_with fail
                    go_roundw
                    case rel => exact ⟨k + 1, by go_num, by omega, _, _, HPOP.out.1, HPOP.out.2, Fa5, Fb6, HM7.out⟩
                    case measure => simp [intOf]; omega
                  · have hkz : ¬ (k : Int) ≤ (ws.length : Int) := by omega
                    have HLOW := hid hM.low
                    clear hAl hLen hM hlenAB hpop
                    go_wp2_with fail
                    go_ret
                    exact ⟨rfl, HLOW.out⟩
end Go.Proofs.Ytchjdpmgocapjaa
