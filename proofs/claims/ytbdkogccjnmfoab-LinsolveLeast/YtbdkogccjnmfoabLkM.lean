/- LinsolveLeast: the walk. -/
import Derived.Test.YtbdkogccjnmfoabLkL
import Derived.Deep.CutBlock
import Derived.Deep.DeepCutAuto
namespace Go.Proofs.Ytbdkogccjnmfoab
open Go.RowKit Go.Shelf

theorem quiet_of2 {P : Program} {f : FuncId} {args : Array Value} {w : World} {n x : Nat} {v : Value}
    (h : Calls P f args (w.drewN (n + x)) fun e w' => e = .returned v ∧ ∃ m, w' = (w.drewN (n + x)).drewN m) : Calls P f args (w.drewN (n + x)) fun e w'' => e = .returned v ∧ ∃ m, w'' = w.drewN (n + m) :=
  h.mono fun _ _ ⟨he, m, hm⟩ => ⟨he, x + m, by rw [hm, World.drewN_drewN, Nat.add_assoc]⟩
theorem sum_bound (l : List Int) (h : ∀ x ∈ l, 0 ≤ x ∧ x ≤ 1048576) (hl : l.length ≤ 10) : 0 ≤ sumI l ∧ sumI l ≤ 10485760 := by
  have h1 : sumI l ≤ l.length * 1048576 := by
    clear hl
    induction l with
    | nil => simp [sumI]
    | cons x l ih =>
      have := ih (fun y hy => h y (List.mem_cons_of_mem _ hy))
      have h2 := h x List.mem_cons_self
      rw [sumI, List.length_cons, Int.natCast_add, Int.add_mul]
      omega
  exact ⟨sumI_nonneg (fun x hx => (h x hx).1), by omega⟩
theorem take_one (V : List Int) (k : Nat) (hk : k < V.length) : V.take (k + 1) = V.take k ++ [V[k]] := by
  rw [List.take_add_one, List.getElem?_eq_getElem hk]
  rfl
theorem sum_take1 (V : List Int) (k n : Nat) (hk : k < V.length) (h : k < n) : sumI ((V.take (k + 1)).take n) = sumI ((V.take k).take n) + V[k] := by
  rw [List.take_take, List.take_take, Nat.min_eq_right (by omega), Nat.min_eq_right (by omega), take_one V k hk, sumI_append]
  simp [sumI]
theorem sum_take2 (V : List Int) (k n : Nat) (h : k < n) : sumI ((V.take (k + 1)).drop n) = sumI ((V.take k).drop n) := by
  rw [List.drop_of_length_le (by rw [List.length_take]; omega), List.drop_of_length_le (by rw [List.length_take]; omega)]
theorem sum_drop1 (V : List Int) (k n : Nat) (h : n ≤ k) : sumI ((V.take (k + 1)).take n) = sumI ((V.take k).take n) := by
  rw [List.take_take, List.take_take, Nat.min_eq_left (by omega), Nat.min_eq_left (by omega)]
theorem sum_drop2 (V : List Int) (k n : Nat) (hk : k < V.length) (h : n ≤ k) : sumI ((V.take (k + 1)).drop n) = sumI ((V.take k).drop n) + V[k] := by
  rw [take_one V k hk, List.drop_append_of_le_length (by rw [List.length_take]; omega), sumI_append]
  simp [sumI]
set_option maxRecDepth 100000 in
set_option maxHeartbeats 8000000 in
theorem linsolveLeast_walk (p : Option Addr) (c : Nat) (a : List Int) (q : Option Addr) (d : Nat) (b : List Int) (w : World) (hA : IntsAt w p a) (hB : IntsAt w q b) (_ : p = none → c = 0) (_ : a.length ≤ 17592186043904) (_ : ∀ x ∈ a, Is64 x) (_ : q = none → d = 0) (_ : b.length ≤ 17592186043904) (_ : ∀ x ∈ b, Is64 x) :
    Calls Try.prog 3 #[.slice p a.length c, .slice q b.length d] w fun e w' => e = .returned (.bool true) ∧ Below w.heap.size w w' := by
  have hmax : maxLen = 9223372036854775807 := rfl
  have hsa := hA.small; have hsb := hB.small
  have HA := hid hA; have HB := hid hB
  clear hA hB
  go_enter Try.func3, Try.ntmps3
  go_wp2_with fail
  refine (lives_any w).mono ?_
  rintro e w1 ⟨rfl, hb1⟩
  have HB1 := hid hb1
  have HG1 := hid (gone_any p c a q d b w1 (HA.out.below hb1) (HB.out.below hb1))
  clear hb1
  go_wp2_with fail
  refine HG1.out.mono ?_
  rintro e w2 ⟨hb2, hcase⟩
  have HB2 : Hid (Below w.heap.size w w2) := hid (HB1.out.trans (hb2.mono HB1.out.size))
  obtain ⟨vl, vs, rfl, hX, hM⟩ : ∃ v vs, e = .returned v ∧ XRow w2 w1.heap.size v vs ∧ (vs = [] ∨ chkE a b = 0 ∧ IsMin (pbOf a b) (vs.map Vc.l)) := by
    rcases hcase with ⟨h0, rfl⟩ | ⟨h0, vl, vs, rfl, hmin, hX, hge⟩
    · exact ⟨_, [], rfl, XRow.nil _ _, .inl rfl⟩
    · exact ⟨vl, vs, rfl, hX, .inr ⟨h0, hmin⟩⟩
  obtain ⟨ql, cl, rfl⟩ := hX.form
  have HC0 : Hid (vs = [] ∨ chkE a b = 0) := hid (hM.imp id (·.1))
  have HML : Hid (chkE a b = 0 → (∀ i (hi : i < vs.length), toI vs[i].l ∈ ML a b) ∧ (∀ k i (_ : k < i) (hk : k < vs.length) (hi : i < vs.length), toI vs[k].l ≠ toI vs[i].l) ∧ ∀ i (h1 : i < vs.length) (h2 : i + 1 < vs.length), ahdV (toI vs[i].l) (toI vs[i + 1].l) = true) := hid (fun h0 => by
    rcases hM with h | ⟨_, h⟩
    · subst h
      exact ⟨fun i hi => absurd hi (Nat.not_lt_zero i), fun k i _ hk => absurd hk (Nat.not_lt_zero k), fun i hi => absurd hi (Nat.not_lt_zero i)⟩
    · exact least_facts h0 h)
  have hnb : vs.length ≤ 13060694016 := by
    rcases hM with h | ⟨h0, h⟩
    · rw [h]; exact Nat.zero_le _
    · obtain ⟨l5, l6, _⟩ := chk_zero h0
      have h1 := h.perm.length_eq
      rw [List.length_map] at h1
      have h2 := Nat.le_trans (res_len (pbOf a b) 13 root) (siz_pow (p := pbOf a b) l5 l6 13 root)
      simp only [Nat.reducePow] at h2
      omega
  obtain ⟨n, hn⟩ : ∃ n, vs.length = n := ⟨_, rfl⟩
  rw [hn] at hX hnb ⊢
  have HX := hid hX; have HN := hid hn
  have HA2 := hid (HA.out.below HB2.out); have HBB2 := hid (HB.out.below HB2.out)
  clear hcase hM hX hn hb2 HG1 HA HB HB1
  go_upto_block 0 with fail
  go_cut [7] (fun v wc => v = .int .i64 (grt b) ∧ wc = w2)
  case first =>
    go_wp2_with fail
    go_loopw [7, 8] (fun sv iv wr => ∃ (j : Nat) (acc : Int), j ≤ b.length ∧ iv = .int .i64 j ∧ sv = .int .i64 acc ∧ (b.drop j).foldl (fun n x => max n x) acc = grt b ∧ wr = w2) (fun _ iv _ => b.length - (intOf iv).toNat)
    case atStart => exact ⟨0, 0, Nat.zero_le _, rfl, rfl, by simp [grt], rfl⟩
    case round =>
      obtain ⟨j, acc, hj, rfl, rfl, hf, hwr⟩ := hrel
      subst hwr
      rename World => w2
      by_cases hlt : j < b.length
      · obtain ⟨b2, o2, rfl, hc2⟩ := HBB2.out.cells j hlt
        rw [List.drop_eq_getElem_cons hlt, List.foldl_cons] at hf
        obtain ⟨m, hm⟩ : ∃ n, b[j] = n := ⟨_, rfl⟩
        rw [hm] at hf hc2
        have HF := hid hf
        clear hf hm
        go_wp2_with fail
        go_roundw
        case rel => exact ⟨j + 1, max acc m, by omega, by go_num, rfl, HF.out, trivial⟩
        case measure => simp [intOf]; omega
      · rw [List.drop_eq_nil_of_le (by omega : b.length ≤ j)] at hf
        have HF : Hid (acc = grt b) := hid hf
        clear hf
        go_wp2_with fail
        go_meet
        exact ⟨by rw [HF.out], rfl⟩
  case rest =>
  obtain ⟨rfl, rfl⟩ := hcut
  rename World => w2
  obtain ⟨GB, hGB⟩ : ∃ z, grt b = z := ⟨_, rfl⟩
  rw [hGB]
  have HGB := hid hGB
  clear hGB
  go_upto_block 2 with fail
  go_cut [9] (fun v wc => v = .int .i64 (grt a) ∧ wc = w2)
  case first =>
    go_wp2_with fail
    go_loopw [9, 10] (fun sv iv wr => ∃ (j : Nat) (acc : Int), j ≤ a.length ∧ iv = .int .i64 j ∧ sv = .int .i64 acc ∧ (a.drop j).foldl (fun n x => max n x) acc = grt a ∧ wr = w2) (fun _ iv _ => a.length - (intOf iv).toNat)
    case atStart => exact ⟨0, 0, Nat.zero_le _, rfl, rfl, by simp [grt], rfl⟩
    case round =>
      obtain ⟨j, acc, hj, rfl, rfl, hf, hwr⟩ := hrel
      subst hwr
      rename World => w2
      by_cases hlt : j < a.length
      · obtain ⟨b2, o2, rfl, hc2⟩ := HA2.out.cells j hlt
        rw [List.drop_eq_getElem_cons hlt, List.foldl_cons] at hf
        obtain ⟨m, hm⟩ : ∃ n, a[j] = n := ⟨_, rfl⟩
        rw [hm] at hf hc2
        have HF := hid hf
        clear hf hm
        go_wp2_with fail
        go_roundw
        case rel => exact ⟨j + 1, max acc m, by omega, by go_num, rfl, HF.out, trivial⟩
        case measure => simp [intOf]; omega
      · rw [List.drop_eq_nil_of_le (by omega : a.length ≤ j)] at hf
        have HF : Hid (acc = grt a) := hid hf
        clear hf
        go_wp2_with fail
        go_meet
        exact ⟨by rw [HF.out], rfl⟩
  case rest =>
  obtain ⟨rfl, rfl⟩ := hcut
  rename World => w2
  obtain ⟨GA, hGA⟩ : ∃ z, grt a = z := ⟨_, rfl⟩
  rw [hGA]
  have HGA := hid hGA
  clear hGA
  go_wp2_with fail
  go_loopw [11] (fun iv wr => ∃ i : Nat, i ≤ n ∧ iv = .int .i64 i ∧ Below w2.heap.size w2 wr) (fun iv _ => n - (intOf iv).toNat)
  case atStart => exact ⟨0, Nat.zero_le _, rfl, Below.refl _ _⟩
  case round =>
    obtain ⟨i, hi, rfl, hbe⟩ := hrel
    rename World => wr
    by_cases hlt : i < n
    · have hil : i < vs.length := by rw [HN.out]; exact hlt
      have h0 : chkE a b = 0 := by
        rcases HC0.out with h | h
        · rw [h] at hil; exact absurd hil (Nat.not_lt_zero i)
        · exact h
      obtain ⟨f1, f2, f3⟩ := HML.out h0
      have hm := f1 i hil
      have hsol := ml_sol h0 hm
      have hbd := ml_bound h0 hm
      obtain ⟨l5, l6, _, _⟩ := chk_zero h0
      obtain ⟨N, hN⟩ : ∃ N, a.length + b.length = N := ⟨_, rfl⟩
      have hN10 : N ≤ 10 := by omega
      have hlv := hsol.1
      rw [hN] at hlv
      obtain ⟨g, rfl, hEl, hcm⟩ := row_el (HX.out.below hbe) i hil hlv
      have HES : Hid (∀ k (hk : k < vs.length), El wr g k N (toI vs[k].l) vs[k].b vs[k].c) := hid (fun k hk => by
        have hl' := (ml_sol h0 (f1 k hk)).1
        rw [hN] at hl'
        obtain ⟨g', e, h, _⟩ := row_el (HX.out.below hbe) k hk hl'
        injection e with e
        injection e with e _ _
        rw [← e] at h
        exact h)
      have HAP : Hid (∀ k (hk : k < vs.length), k < i → belV (toI vs[i].l) (toI vs[k].l) = false ∧ belV (toI vs[k].l) (toI vs[i].l) = false) := hid (fun k hk hki => by
        constructor
        · cases hx : belV (toI vs[i].l) (toI vs[k].l) with
          | false => rfl
          | true => exact absurd (ml_least h0 hm (f1 k hk) hx).symm (f2 k i hki hk hil)
        · cases hx : belV (toI vs[k].l) (toI vs[i].l) with
          | false => rfl
          | true => exact absurd (ml_least h0 (f1 k hk) hm hx) (f2 k i hki hk hil))
      have HRI : Hid (∀ k (hk : k < vs.length), k + 1 = i → ahdV (toI vs[k].l) (toI vs[i].l) = true) := hid (fun k hk e => by subst e; exact f3 k hk hil)
      have HSV := hid (solves_any p c a q d b vs[i].b vs[i].c (toI vs[i].l) wr (HA2.out.below hbe) (HBB2.out.below hbe) hEl.bl (by rw [hEl.len]; exact hEl.cap) (by omega))
      have hMN := fun W (hb : Below wr.heap.size wr W) => minimal_any p c a q d b vs[i].b vs[i].c (toI vs[i].l) W ((HA2.out.below hbe).below hb) ((HBB2.out.below hbe).below hb) (hEl.below hb).bl (by rw [hEl.len]; exact hEl.cap) (by omega)
      rw [sol_solB h0 hsol, hlv] at HSV
      rw [(minB_iff a b _).2 ⟨h0, hm⟩, hlv] at hMN
      have HMN := hid hMN
      obtain ⟨V, hV⟩ : ∃ V, toI vs[i].l = V := ⟨_, rfl⟩
      obtain ⟨Bi, hBi⟩ : ∃ V, vs[i].b = V := ⟨_, rfl⟩
      obtain ⟨Ci, hCi⟩ : ∃ V, vs[i].c = V := ⟨_, rfl⟩
      rw [hV] at HAP HRI hsol hbd hEl hlv
      rw [hBi, hCi] at HSV HMN hEl
      have HEl := hid hEl; have HBE := hid hbe; have HSO := hid hsol; have HBD := hid hbd; have HNE := hid hN; have HVL := hid hlv
      have c1 := hEl.cell
      have hw1 : IntKind.i64.wrap ((a.length : Int) + (b.length : Int)) = (N : Int) := by rw [← hN, Int.natCast_add]; exact IntWalk.i64_in _ (by constructor <;> omega)
      have hnn : ((N : Int) != (N : Int)) = false := by simp
      clear hm hsol hbd hbe hEl hlv hN f1 f2 f3 h0 hV hBi hCi hcm hMN
      go_wp2_with fail
      refine HSV.out.mono ?_
      rintro e wr2 ⟨rfl, hb2⟩
      have HES2 : Hid (∀ k (hk : k < vs.length), El wr2 g k N (toI vs[k].l) vs[k].b vs[k].c) := hid (fun k hk => (HES.out k hk).below hb2)
      have HEl2 := hid (HEl.out.below hb2)
      have HBE2 : Hid (Below w2.heap.size w2 wr2) := hid (HBE.out.trans (hb2.mono HBE.out.size))
      have HMN2 := hid (HMN.out wr2 hb2)
      clear HSV HMN HES HEl HBE hb2 c1
      have c1 := HEl2.out.cell
      go_upto_region 17 with fail
      go_cut [13] (fun mv wc => mv = .bool true ∧ Below wr2.heap.size wr2 wc)
      case first =>
        by_cases hi4 : 4 < i
        · go_wp2_with fail
          go_meet
          exact ⟨rfl, Below.refl _ _⟩
        · go_wp2_with fail
          refine HMN2.out.mono ?_
          rintro e wr3 ⟨rfl, hb3⟩
          have HB3 := hid hb3
          clear hb3
          go_wp2_with fail
          go_meet
          exact ⟨rfl, HB3.out⟩
      case rest =>
      obtain ⟨rfl, hb3⟩ := hcut
      rename World => wr3
      have HES3 : Hid (∀ k (hk : k < vs.length), El wr3 g k N (toI vs[k].l) vs[k].b vs[k].c) := hid (fun k hk => (HES2.out k hk).below hb3)
      have HEl3 := hid (HEl2.out.below hb3)
      have HBE3 : Hid (Below w2.heap.size w2 wr3) := hid (HBE2.out.trans (hb3.mono HBE2.out.size))
      clear HMN2 HES2 HEl2 HBE2 hb3 c1
      have c1 := HEl3.out.cell
      go_upto_block 6 with fail
      go_cut [14, 15] (fun xv yv wc => xv = .int .i64 (sumI (V.take a.length)) ∧ yv = .int .i64 (sumI (V.drop a.length)) ∧ wc = wr3)
      case first =>
        go_wp2_with fail
        go_loopw [14, 15, 16] (fun xv yv kv wx => ∃ k : Nat, k ≤ N ∧ kv = .int .i64 k ∧ xv = .int .i64 (sumI ((V.take k).take a.length)) ∧ yv = .int .i64 (sumI ((V.take k).drop a.length)) ∧ wx = wr3) (fun _ _ kv _ => N - (intOf kv).toNat)
        case atStart => exact ⟨0, Nat.zero_le _, rfl, by simp [sumI], by simp [sumI], rfl⟩
        case round =>
          obtain ⟨k, hk, rfl, rfl, rfl, hwr⟩ := hrel
          subst hwr
          rename World => wr3
          by_cases hkl : k < N
          · have hkV : k < V.length := by rw [HVL.out]; exact hkl
            have c2 := HEl3.out.bl.cell k hkV
            have hy := HSO.out.2.1.get k hkV
            have hV10 : V.length ≤ 10 := by rw [HVL.out]; exact hN10
            have hcn := HSO.out.2.1
            have hbx := sum_bound ((V.take k).take a.length) (fun x hx => hcn x (List.mem_of_mem_take (List.mem_of_mem_take hx))) (by simp; omega)
            have hby := sum_bound ((V.take k).drop a.length) (fun x hx => hcn x (List.mem_of_mem_take (List.mem_of_mem_drop hx))) (by simp; omega)
            by_cases hka : k < a.length
            · have e1 := sum_take1 V k a.length hkV hka
              have e2 := sum_take2 V k a.length hka
              obtain ⟨y, hyy⟩ : ∃ y, V[k] = y := ⟨_, rfl⟩
              rw [hyy] at c2 hy e1
              obtain ⟨sx, hsx⟩ : ∃ z, sumI ((V.take k).take a.length) = z := ⟨_, rfl⟩
              obtain ⟨sy, hsy⟩ : ∃ z, sumI ((V.take k).drop a.length) = z := ⟨_, rfl⟩
              rw [hsx] at hbx e1 ⊢
              rw [hsy] at hby e2 ⊢
              have e3 : IntKind.i64.wrap (sx + y) = sx + y := IntWalk.i64_in _ (by constructor <;> omega)
              have E1 := hid e1; have E2 := hid e2
              clear e1 e2 hsx hsy hyy hcn hV10
              go_wp2_with fail
              go_roundw
              case rel => exact ⟨k + 1, by omega, by go_num, by rw [E1.out], by rw [E2.out], trivial⟩
              case measure => simp [intOf]; omega
            · have e1 := sum_drop1 V k a.length (by omega)
              have e2 := sum_drop2 V k a.length hkV (by omega)
              obtain ⟨y, hyy⟩ : ∃ y, V[k] = y := ⟨_, rfl⟩
              rw [hyy] at c2 hy e2
              obtain ⟨sx, hsx⟩ : ∃ z, sumI ((V.take k).take a.length) = z := ⟨_, rfl⟩
              obtain ⟨sy, hsy⟩ : ∃ z, sumI ((V.take k).drop a.length) = z := ⟨_, rfl⟩
              rw [hsx] at hbx e1 ⊢
              rw [hsy] at hby e2 ⊢
              have e3 : IntKind.i64.wrap (sy + y) = sy + y := IntWalk.i64_in _ (by constructor <;> omega)
              have E1 := hid e1; have E2 := hid e2
              clear e1 e2 hsx hsy hyy hcn hV10
              go_wp2_with fail
              go_roundw
              case rel => exact ⟨k + 1, by omega, by go_num, by rw [E1.out], by rw [E2.out], trivial⟩
              case measure => simp [intOf]; omega
          · have hkN : k = N := by omega
            have hVt : V.take k = V := List.take_of_length_le (by rw [HVL.out]; omega)
            rw [hVt]
            clear hVt
            go_wp2_with fail
            go_meet
            exact ⟨rfl, rfl, rfl⟩
      case rest =>
      obtain ⟨rfl, rfl, rfl⟩ := hcut
      rename World => wr3
      have hbd1 := HBD.out.1; have hbd2 := HBD.out.2.1; have hbd3 := HBD.out.2.2.1; have hbd4 := HBD.out.2.2.2
      rw [HGB.out] at hbd1
      rw [HGA.out] at hbd2
      generalize sumI (V.take a.length) = sx at hbd1 hbd3 ⊢
      generalize sumI (V.drop a.length) = sy at hbd2 hbd4 ⊢
      go_upto_block 8 with fail
      go_cut [11] (fun iv wc => iv = .int .i64 i ∧ ∃ n, wc = wr3.drewN n)
      case first =>
        go_wp2_with fail
        go_loopw [17] (fun kv wx => ∃ k : Nat, k ≤ i ∧ kv = .int .i64 k ∧ ∃ n, wx = wr3.drewN n) (fun kv _ => i - (intOf kv).toNat)
        case atStart => exact ⟨0, Nat.zero_le _, rfl, 0, rfl⟩
        case round =>
          obtain ⟨k, hk, rfl, nk, hwx⟩ := hrel
          rename World => wx
          by_cases hkl : k < i
          · have hkv : k < vs.length := by omega
            have hE1 := HEl3.out.drewN nk
            have hE2 := (HES3.out k hkv).drewN nk
            rw [← hwx] at hE1 hE2
            have hap := HAP.out k hkv hkl
            have hB1 := fun n => below_any (some ⟨Bi, 0, none⟩) Ci V (some ⟨vs[k].b, 0, none⟩) vs[k].c (toI vs[k].l) (wx.drewN n) ((hE1.drewN n).bl.ints (by rw [hE1.len]; omega)) ((hE2.drewN n).bl.ints (by rw [hE2.len]; omega)) (by rw [hE1.len, hE2.len])
            have hB2 := fun n => below_any (some ⟨vs[k].b, 0, none⟩) vs[k].c (toI vs[k].l) (some ⟨Bi, 0, none⟩) Ci V (wx.drewN n) ((hE2.drewN n).bl.ints (by rw [hE2.len]; omega)) ((hE1.drewN n).bl.ints (by rw [hE1.len]; omega)) (by rw [hE1.len, hE2.len])
            rw [hap.1, hE1.len, hE2.len] at hB1
            rw [hap.2, hE1.len, hE2.len] at hB2
            have c2 : wx.cell? ⟨g, i, none⟩ = some (.slice (some ⟨Bi, 0, none⟩) N Ci) := hE1.cell
            have c3 : wx.cell? ⟨g, k, none⟩ = some (.slice (some ⟨vs[k].b, 0, none⟩) N vs[k].c) := hE2.cell
            have HC2 : Hid (∀ n, (wx.drewN n).cell? ⟨g, i, none⟩ = some (.slice (some ⟨Bi, 0, none⟩) N Ci) ∧ (wx.drewN n).cell? ⟨g, k, none⟩ = some (.slice (some ⟨vs[k].b, 0, none⟩) N vs[k].c)) := hid (fun n => ⟨(hE1.drewN n).cell, (hE2.drewN n).cell⟩)
            obtain ⟨Bk, hBk⟩ : ∃ z, vs[k].b = z := ⟨_, rfl⟩
            obtain ⟨Ck, hCk⟩ : ∃ z, vs[k].c = z := ⟨_, rfl⟩
            rw [hBk, hCk] at hB1 hB2 c3 HC2
            have HB1' := hid hB1; have HB2' := hid hB2; have HWX : Hid (∃ n, wx = wr3.drewN n) := hid ⟨nk, hwx⟩
            clear hE1 hE2 hap hB1 hB2 hBk hCk hwx
            go_wp2_with fail
            go_big_quiet ((go_at_call 9; with_reducible exact Calls.quiet_of (HB1'.out _)))
            go_wp2_with fail
            go_big_quiet ((go_at_call 9; with_reducible exact quiet_of2 (HB2'.out _)))
            go_wp2_with fail
            go_roundw
            case rel => exact ⟨k + 1, by omega, by go_num, drew_more HWX.out _⟩
            case measure => simp [intOf]; omega
          · have HWX : Hid (∃ n, wx = wr3.drewN n) := hid ⟨nk, hwx⟩
            clear hwx
            go_wp2_with fail
            go_meet
            exact ⟨rfl, HWX.out⟩
      case rest =>
      obtain ⟨rfl, nw, hwc⟩ := hcut
      rename World => wc
      have HBE4 : Hid (Below w2.heap.size w2 wc) := hid (by rw [hwc]; exact below_drewN HBE3.out nw)
      have hEi := HEl3.out.drewN nw
      rw [← hwc] at hEi
      by_cases hi0 : 0 < i
      · obtain ⟨k, hk⟩ : ∃ k, k + 1 = i := ⟨i - 1, by omega⟩
        have hkv : k < vs.length := by omega
        have hE2 := (HES3.out k hkv).drewN nw
        rw [← hwc] at hE2
        have hR := fun n => rises_any (some ⟨vs[k].b, 0, none⟩) vs[k].c (toI vs[k].l) (some ⟨Bi, 0, none⟩) Ci V (wc.drewN n) ((hE2.drewN n).bl.ints (by rw [hE2.len]; omega)) ((hEi.drewN n).bl.ints (by rw [hEi.len]; omega)) (by rw [hEi.len, hE2.len])
        rw [HRI.out k hkv hk, hE2.len, hEi.len] at hR
        have c2 : wc.cell? ⟨g, i, none⟩ = some (.slice (some ⟨Bi, 0, none⟩) N Ci) := hEi.cell
        have c3 : wc.cell? ⟨g, k, none⟩ = some (.slice (some ⟨vs[k].b, 0, none⟩) N vs[k].c) := hE2.cell
        obtain ⟨Bk, hBk⟩ : ∃ z, vs[k].b = z := ⟨_, rfl⟩
        obtain ⟨Ck, hCk⟩ : ∃ z, vs[k].c = z := ⟨_, rfl⟩
        rw [hBk, hCk] at hR c3
        have HR := hid hR
        have e1 : IntKind.i64.wrap ((i : Int) - 1) = (k : Int) := by rw [IntWalk.i64_in _ (by constructor <;> omega)]; omega
        have hkN : k < n := by omega
        clear hE2 hEi hR hBk hCk hwc c1 hk
        go_wp2_with fail
        go_big_quiet ((go_at_call 10; with_reducible exact Calls.quiet_of (HR.out _)))
        go_wp2_with fail
        go_roundw
        case rel => exact ⟨i + 1, by omega, by go_num, below_drewN HBE4.out _⟩
        case measure => simp [intOf]; omega
      · have hi00 : i = 0 := by omega
        clear hwc c1 hEi
        go_wp2_with fail
        go_big_quiet (fail)
        go_wp2_with fail
        go_roundw
        case rel => exact ⟨i + 1, by omega, by go_num, below_drewN HBE4.out _⟩
        case measure => simp [intOf]; omega
    · have HBE : Hid (Below w.heap.size w wr) := hid (HB2.out.trans (hbe.mono HB2.out.size))
      clear hbe
      go_wp2_with fail
      go_ret
      exact ⟨rfl, HBE.out⟩
end Go.Proofs.Ytbdkogccjnmfoab
