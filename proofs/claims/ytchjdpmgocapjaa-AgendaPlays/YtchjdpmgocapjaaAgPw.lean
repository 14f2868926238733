/- AgendaPlays' walk. -/
import Derived.Test.YtchjdpmgocapjaaAgPl
namespace Go.Proofs.Ytchjdpmgocapjaa
open Go.RowKit Go.Shelf

/-- The memory as the walk goes. -/
def Pm (w wr : World) (A B : Nat → Nat) (gl gm : Nat) (most b : Int) : Prop := ∃ la L F G, PS2 w wr A B gl gm most la L F G ∧ ∀ k, k < 2 → la k ≤ b
theorem Pm.pop {w wr wr' : World} {A B : Nat → Nat} {gl gm : Nat} {most b : Int} {la : Nat → Int} {L : Nat → List Th} {F G : Nat → Nat → Prop} (h : PS2 w wr A B gl gm most la L F G) (hl : ∀ k, k < 2 → la k ≤ b) (k : Nat) (hk : k < 2) {l' : Int} {L' : List Th} (he : TwEnd wr wr' (A k) (B k) most l' L' (F k) (G k)) (hb : l' ≤ b) : Pm w wr' A B gl gm most b ∧ wr'.cell? ⟨gl, k, none⟩ = some (.pointer (some ⟨A k, 0, none⟩)) ∧ wr'.cell? ⟨gm, k, none⟩ = some (.pointer (some ⟨B k, 0, none⟩)) := by
  obtain ⟨la2, L2, F2, G2, h1, h2, h3, h4⟩ := h.op k hk he
  refine ⟨⟨la2, L2, F2, G2, h1, fun j hj => ?_⟩, h1.cells k hk⟩
  by_cases hjk : j = k
  · rw [hjk, h2]; exact hb
  · rw [h4 j hjk]; exact hl j hj
theorem Pm.op {w wr wr' : World} {A B : Nat → Nat} {gl gm : Nat} {most b : Int} {la : Nat → Int} {L : Nat → List Th} {F G : Nat → Nat → Prop} (h : PS2 w wr A B gl gm most la L F G) (hl : ∀ k, k < 2 → la k ≤ b) (k : Nat) (hk : k < 2) {l' : Int} {L' : List Th} (he : TwEnd wr wr' (A k) (B k) most l' L' (F k) (G k)) (hb : l' ≤ b + 1) : Pm w wr' A B gl gm most (b + 1) ∧ ∃ la2 L2 F2 G2, PS2 w wr' A B gl gm most la2 L2 F2 G2 ∧ L2 k = L' := by
  obtain ⟨la2, L2, F2, G2, h1, h2, h3, h4⟩ := h.op k hk he
  refine ⟨⟨la2, L2, F2, G2, h1, fun j hj => ?_⟩, la2, L2, F2, G2, h1, h3⟩
  by_cases hjk : j = k
  · rw [hjk, h2]; exact hb
  · rw [h4 j hjk]; have := hl j hj; omega
set_option maxRecDepth 100000 in
set_option maxHeartbeats 8000000 in
theorem plays_walk (most : Int) (a1 : Option Addr) (cap1 : Nat) (ops : List Op4) (w : World) (h1 : OpsAt w a1 ops) (_ : Is64 most) (s1 : ops.length ≤ 140737488355328) :
    Calls Try.prog 4 #[.int .i64 most, .slice a1 ops.length cap1] w fun e w' => e = .returned (.bool true) ∧ Below w.heap.size w w' := by
  go_enter Try.func4, Try.ntmps4
  go_wp2_with fail
  refine (lives_any w).mono ?_
  rintro e w1 ⟨rfl, hb1⟩
  have HB1 := hid hb1
  clear hb1
  by_cases hbad : most < 1 ∨ 65536 < most
  · have HN1 := hid (new_none most hbad w1)
    go_wp2_with fail
    refine HN1.out.mono ?_
    rintro e w2 ⟨rfl, rfl⟩
    go_wp2_with fail
    refine HN1.out.mono ?_
    rintro e w3 ⟨rfl, rfl⟩
    rcases hbad with hb | hb
    · have hd : decide (most < 1) = true := decide_eq_true hb
      go_wp2_with fail
      go_ret
      exact ⟨rfl, HB1.out⟩
    · have hd : decide (most < 1) = false := decide_eq_false (by omega)
      have hd2 : decide (65536 < most) = true := decide_eq_true hb
      go_wp2_with fail
      go_ret
      exact ⟨rfl, HB1.out⟩
  · have hm1 : 1 ≤ most := by omega
    have hm2 : most ≤ 65536 := by omega
    have hd : decide (most < 1) = false := decide_eq_false (by omega)
    have hd2 : decide (65536 < most) = false := decide_eq_false (by omega)
    clear hbad
    have HN1 := hid (new_any most hm1 hm2 w1)
    go_wp2_with fail
    refine HN1.out.mono ?_
    rintro e w2 ⟨A0, F0, rfl, hA0, hb2, hF0⟩
    have HN2 := hid (new_any most hm1 hm2 w2)
    have HA0 := hid hA0; have HB2 := hid hb2; have HF0 := hid hF0
    clear hA0 hb2 hF0 HN1
    go_wp2_with fail
    refine HN2.out.mono ?_
    rintro e w3 ⟨A1, F1, rfl, hA1, hb3, hF1⟩
    have HA1 := hid hA1; have HB3 := hid hb3; have HF1 := hid hF1
    obtain ⟨gl, hgl⟩ : ∃ g, w3.heap.size = g := ⟨_, rfl⟩
    have HGL := hid hgl
    have b4 := alloc_below0 w3 (.cells #[.pointer (some ⟨A0, 0, none⟩), .pointer (some ⟨A1, 0, none⟩)] 38)
    have n4 := World.alloc_heap_new w3 (.cells #[.pointer (some ⟨A0, 0, none⟩), .pointer (some ⟨A1, 0, none⟩)] 38)
    have z4 := World.size_alloc w3 (.cells #[.pointer (some ⟨A0, 0, none⟩), .pointer (some ⟨A1, 0, none⟩)] 38)
    rw [hgl] at n4 z4
    obtain ⟨w4, hw4⟩ : ∃ w4, w4 = w3.alloc (.cells #[.pointer (some ⟨A0, 0, none⟩), .pointer (some ⟨A1, 0, none⟩)] 38) := ⟨_, rfl⟩
    rw [← hw4] at b4 n4 z4
    have HN4 := hid n4; have HZ4 := hid z4; have HB4 := hid b4
    clear hA1 hb3 hF1 HN2 b4 n4 z4
    have HR1 := hid (rnew_any most hm1 hm2 w4)
    go_wp2_with fail
    rw [← hw4]
    clear hw4
    refine HR1.out.mono ?_
    rintro e w5 ⟨B0, G0, rfl, hB0, hb5, hG0⟩
    have HR2 := hid (rnew_any most hm1 hm2 w5)
    have HB0 := hid hB0; have HB5 := hid hb5; have HG0 := hid hG0
    clear hB0 hb5 hG0 HR1
    go_wp2_with fail
    refine HR2.out.mono ?_
    rintro e w6 ⟨B1, G1, rfl, hB1, hb6, hG1⟩
    obtain ⟨gm, hgm⟩ : ∃ g, w6.heap.size = g := ⟨_, rfl⟩
    have b7 := alloc_below0 w6 (.cells #[.pointer (some ⟨B0, 0, none⟩), .pointer (some ⟨B1, 0, none⟩)] 42)
    have n7 := World.alloc_heap_new w6 (.cells #[.pointer (some ⟨B0, 0, none⟩), .pointer (some ⟨B1, 0, none⟩)] 42)
    rw [hgm] at n7
    obtain ⟨w7, hw7⟩ : ∃ w7, w7 = w6.alloc (.cells #[.pointer (some ⟨B0, 0, none⟩), .pointer (some ⟨B1, 0, none⟩)] 42) := ⟨_, rfl⟩
    rw [← hw7] at b7 n7
    have HPM : Hid (Pm w w7 (fun k => if k = 0 then A0 else A1) (fun k => if k = 0 then B0 else B1) gl gm most ((0 : Nat) : Int)) := hid (by
      have s1 := HB1.out.size
      have s2 := HB2.out.size
      have s3 := HB3.out.size
      have s4 := HB4.out.size
      have s5 := HB5.out.size
      have s6 := hb6.size
      have hg := HGL.out
      have z4 := HZ4.out
      have l0 := HA0.out.lt
      have l1 := HA1.out.lt
      have k0 := HB0.out.lt
      have k1 := hB1.lt
      have f0 := HF0.out
      have f1 := HF1.out
      have e0 := HG0.out
      have lo57 : Below w5.heap.size w5 w7 := hb6.trans (b7.mono s6)
      have lo47 : Below w4.heap.size w4 w7 := HB5.out.trans (lo57.mono s5)
      have lo37 : Below w3.heap.size w3 w7 := HB4.out.trans (lo47.mono s4)
      have lo27 : Below w2.heap.size w2 w7 := HB3.out.trans (lo37.mono s3)
      have lo17 : Below w1.heap.size w1 w7 := HB2.out.trans (lo27.mono s2)
      refine ⟨fun _ => 0, fun _ => [], fun k => if k = 0 then F0 else F1, fun k => if k = 0 then G0 else G1, ⟨fun k hk => ?_, fun i j hi hj hij q hq hx => ?_, ?_, ?_, fun k hk q hq => ?_, HB1.out.trans (lo17.mono s1)⟩, fun k _ => by simp⟩
      · match k, hk with
        | 0, _ => exact ⟨HA0.out.below lo27, HB0.out.below lo57, fun q hq hx => by have := l0 q hq; have := e0 q hx; omega⟩
        | 1, _ => exact ⟨HA1.out.below lo37, hB1.below b7, fun q hq hx => by have := l1 q hq; have := hG1 q hx; omega⟩
      · match i, hi, j, hj with
        | 0, _, 0, _ => exact hij rfl
        | 1, _, 1, _ => exact hij rfl
        | 0, _, 1, _ =>
          simp only [if_true, Nat.one_ne_zero, if_false] at hq hx
          rcases hq with hq | hq <;> rcases hx with hx | hx
          · have := l0 q hq; have := f1 q hx; omega
          · have := l0 q hq; have := hG1 q hx; omega
          · have := e0 q hq; have := l1 q hx; omega
          · have := k0 q hq; have := hG1 q hx; omega
        | 1, _, 0, _ =>
          simp only [if_true, Nat.one_ne_zero, if_false] at hq hx
          rcases hq with hq | hq <;> rcases hx with hx | hx
          · have := f1 q hq; have := l0 q hx; omega
          · have := l1 q hq; have := e0 q hx; omega
          · have := hG1 q hq; have := l0 q hx; omega
          · have := hG1 q hq; have := k0 q hx; omega
      · exact below_blk lo47 HN4.out
      · exact n7
      · match k, hk with
        | 0, _ =>
          simp only [if_true] at hq
          rcases hq with hq | hq
          · have := l0 q hq; have := f0 q hq; omega
          · have := k0 q hq; have := e0 q hq; omega
        | 1, _ =>
          simp only [Nat.one_ne_zero, if_false] at hq
          rcases hq with hq | hq
          · have := l1 q hq; have := f1 q hq; omega
          · have := k1 q hq; have := hG1 q hq; omega)
    clear hB1 hb6 hG1 b7 n7 HR2 HA0 HA1 HB0 HB2 HB3 HB4 HB5 HF0 HF1 HG0 HN4 HZ4 HB1
    go_wp2_with fail
    rw [← hw7]
    generalize (fun k : Nat => if k = 0 then A0 else A1) = A at HPM
    generalize (fun k : Nat => if k = 0 then B0 else B1) = B at HPM
    clear hw7 hgm hgl
    go_loopw [12] (fun iv wr => ∃ i : Nat, iv = .int .i64 i ∧ i ≤ ops.length ∧ Pm w wr A B gl gm most (i : Int)) (fun iv _ => ops.length - (intOf iv).toNat)
    case atStart => exact ⟨0, rfl, Nat.zero_le _, HPM.out⟩
    case round =>
      obtain ⟨i, rfl, hin, la, L, F, G, hP, hla⟩ := hrel
      by_cases hi : i < ops.length
      · obtain ⟨b0, o0, rfl, c0, c1, c2, c3, hx64⟩ := h1.2 i hi
        have hiz : (i : Int) < (ops.length : Int) := by omega
        have hib : (i : Int) ≤ 140737488355328 := by omega
        obtain ⟨k, hk, hkw⟩ : ∃ k : Nat, k < 2 ∧ k = if ops[i].wh = true then 1 else 0 := ⟨if ops[i].wh = true then 1 else 0, by split <;> omega, rfl⟩
        have hPd := hP.below ((Below.refl _ wr).drew)
        have HON := hid (one_any (hPd.t k hk) ops[i].wh ops[i].k ops[i].x ops[i].wt hx64 (by have := hla k hk; omega))
        obtain ⟨r1, r2⟩ := hPd.cells k hk
        have d0 := below_cell hPd.low _ _ c0
        have d1 := below_cell hPd.low _ _ c1
        have d2 := below_cell hPd.low _ _ c2
        have d3 := below_cell hPd.low _ _ c3
        have e0 := below_cell hP.low _ _ c0
        have HS : Hid (wr.drew.cell? ⟨gl, k, none⟩ = some (.pointer (some ⟨A k, 0, none⟩)) ∧ wr.drew.cell? ⟨gm, k, none⟩ = some (.pointer (some ⟨B k, 0, none⟩)) ∧ wr.drew.cell? ⟨b0, o0 + i * 4, none⟩ = some (.bool ops[i].wh) ∧ wr.drew.cell? ⟨b0, o0 + i * 4 + 1, none⟩ = some (.int .i64 ops[i].k) ∧ wr.drew.cell? ⟨b0, o0 + i * 4 + 2, none⟩ = some (.int .i64 ops[i].x) ∧ wr.drew.cell? ⟨b0, o0 + i * 4 + 3, none⟩ = some (.int .i64 ops[i].wt)) := hid ⟨r1, r2, d0, d1, d2, d3⟩
        have HP := hid hPd; have HLA := hid hla
        have hkz : (k : Int) < 2 := by omega
        have hkz2 : k ≤ 1 := by omega
        unfold opV at HON
        generalize ops[i] = op at *
        obtain ⟨oh, ok, ox, ow⟩ := op
        dsimp only at *
        have HC := hid (And.intro c0 (And.intro c1 (And.intro c2 c3)))
        clear hP hPd r1 r2 d0 d1 d2 d3 c0 c1 c2 c3 hla
        have HAF : Hid (∀ w1 l' L', TwEnd wr.drew w1 (A k) (B k) most l' L' (F k) (G k) → l' ≤ la k + 1 → Pm w w1 A B gl gm most ((i : Int) + 1) ∧ (w1.cell? ⟨gl, k, none⟩ = some (.pointer (some ⟨A k, 0, none⟩)) ∧ w1.cell? ⟨gm, k, none⟩ = some (.pointer (some ⟨B k, 0, none⟩)) ∧ w1.cell? ⟨b0, o0 + i * 4, none⟩ = some (.bool oh) ∧ w1.cell? ⟨b0, o0 + i * 4 + 1, none⟩ = some (.int .i64 ok) ∧ w1.cell? ⟨b0, o0 + i * 4 + 2, none⟩ = some (.int .i64 ox) ∧ w1.cell? ⟨b0, o0 + i * 4 + 3, none⟩ = some (.int .i64 ow)) ∧ ∃ p n c, w1.cell? ⟨gl, k, none⟩ = some (.pointer (some ⟨A k, 0, none⟩)) ∧ w1.cell? ⟨gm, k, none⟩ = some (.pointer (some ⟨B k, 0, none⟩)) ∧ w1.cell? ⟨B k, 2, none⟩ = some (.slice p n c) ∧ Calls Try.prog 18 #[.pointer (some ⟨A k, 0, none⟩)] w1 fun e w' => e = .returned (.int .i64 n) ∧ w' = w1) := hid fun w1 l' L' he hl => by
          obtain ⟨m1, la2, L2, F2, G2, m2, m3⟩ := Pm.op HP.out HLA.out k hk he (by have := HLA.out k hk; omega)
          have tk := m2.t k hk
          obtain ⟨v, g1, g2, _⟩ := id tk.b
          obtain ⟨p, c, rfl⟩ := g2.form
          exact ⟨m1, ⟨(m2.cells k hk).1, (m2.cells k hk).2, below_cell m2.low _ _ HC.out.1, below_cell m2.low _ _ HC.out.2.1, below_cell m2.low _ _ HC.out.2.2.1, below_cell m2.low _ _ HC.out.2.2.2⟩, p, _, c, (m2.cells k hk).1, (m2.cells k hk).2, cell_box g1 rfl, aLen_any tk.a⟩
        have hnn : ∀ n : Nat, ((n : Int) != (n : Int)) = false := fun n => by simp
        cases oh
        · have hk0 : k = 0 := hkw
          subst hk0
          clear hkw HLA HP
          go_wp2_with fail
          go_region_held3 (fun w' => w'.cell? ⟨gl, 0, none⟩ = some (.pointer (some ⟨A 0, 0, none⟩)) ∧ w'.cell? ⟨gm, 0, none⟩ = some (.pointer (some ⟨B 0, 0, none⟩)) ∧ w'.cell? ⟨b0, o0 + i * 4, none⟩ = some (.bool false) ∧ w'.cell? ⟨b0, o0 + i * 4 + 1, none⟩ = some (.int .i64 ok) ∧ w'.cell? ⟨b0, o0 + i * 4 + 2, none⟩ = some (.int .i64 ox) ∧ w'.cell? ⟨b0, o0 + i * 4 + 3, none⟩ = some (.int .i64 ow)) ((first | exact HS.out | exact HS1.out | go_keep | fail)) ((first
            | (go_at_call 17; refine Calls.mono HON.out ?_; rintro e w1 ⟨rfl, l', L', he, hl⟩; have HQ := hid (HAF.out w1 l' L' he hl); have HS1 := hid HQ.out.2.1; clear he hl)
            | fail))
          all_goals
            obtain ⟨m1, _, p, n, c, y1, y2, y3, y4⟩ := HQ.out
            have HM1 := hid m1; have HL4 := hid y4
            have hn1 := hnn n
            clear m1 y4 HQ HS1
            go_wp2_with fail
            refine HL4.out.mono ?_
            rintro e w9 ⟨rfl, rfl⟩
            go_wp2_with fail
            go_roundw
            case rel => exact ⟨i + 1, by go_num, by omega, by have h9 := HM1.out; rw [show ((i + 1 : Nat) : Int) = (i : Int) + 1 by omega]; exact h9⟩
            case measure => simp [intOf]; omega
        · have hk0 : k = 1 := hkw
          subst hk0
          clear hkw HLA HP
          go_wp2_with fail
          go_region_held3 (fun w' => w'.cell? ⟨gl, 1, none⟩ = some (.pointer (some ⟨A 1, 0, none⟩)) ∧ w'.cell? ⟨gm, 1, none⟩ = some (.pointer (some ⟨B 1, 0, none⟩)) ∧ w'.cell? ⟨b0, o0 + i * 4, none⟩ = some (.bool true) ∧ w'.cell? ⟨b0, o0 + i * 4 + 1, none⟩ = some (.int .i64 ok) ∧ w'.cell? ⟨b0, o0 + i * 4 + 2, none⟩ = some (.int .i64 ox) ∧ w'.cell? ⟨b0, o0 + i * 4 + 3, none⟩ = some (.int .i64 ow)) ((first | exact HS.out | exact HS1.out | go_keep | fail)) ((first
            | (go_at_call 17; refine Calls.mono HON.out ?_; rintro e w1 ⟨rfl, l', L', he, hl⟩; have HQ := hid (HAF.out w1 l' L' he hl); have HS1 := hid HQ.out.2.1; clear he hl)
            | fail))
          all_goals
            obtain ⟨m1, _, p, n, c, y1, y2, y3, y4⟩ := HQ.out
            have HM1 := hid m1; have HL4 := hid y4
            have hn1 := hnn n
            clear m1 y4 HQ HS1
            go_wp2_with fail
            refine HL4.out.mono ?_
            rintro e w9 ⟨rfl, rfl⟩
            go_wp2_with fail
            go_roundw
            case rel => exact ⟨i + 1, by go_num, by omega, by have h9 := HM1.out; rw [show ((i + 1 : Nat) : Int) = (i : Int) + 1 by omega]; exact h9⟩
            case measure => simp [intOf]; omega
      · have hiz : ¬ ((i : Int) < (ops.length : Int)) := by omega
        have HPE : Hid (Pm w wr A B gl gm most (ops.length : Int)) := hid ⟨la, L, F, G, hP, fun k hk => by have := hla k hk; omega⟩
        clear hP hla
        go_wp2_with fail
        go_loopw [16] (fun kv wr2 => (kv = .int .i64 0 ∨ kv = .int .i64 1 ∨ kv = .int .i64 2) ∧ Pm w wr2 A B gl gm most (ops.length : Int)) (fun kv _ => (2 - intOf kv).toNat)
        case atStart => exact ⟨.inl rfl, HPE.out⟩
        case round =>
          clear HPE
          obtain ⟨hkv, hPm⟩ := hrel
          rename World => wr2
          rcases hkv with rfl | rfl | rfl
          · obtain ⟨la, L, F, G, hP, hla⟩ := hPm
            have tk := hP.t 0 (by omega)
            obtain ⟨v, g1, g2, g3, g4, _⟩ := id tk.b
            obtain ⟨p, c, rfl⟩ := g2.form
            obtain ⟨r1, r2⟩ := hP.cells 0 (by omega)
            have r3 : wr2.cell? ⟨B 0, 2, none⟩ = some (.slice p (L 0).length c) := cell_box g1 rfl
            have hL : ((L 0).length : Int) ≤ 65536 := by omega
            have HP2 : Hid (Pm w wr2 A B gl gm most (ops.length : Int)) := hid ⟨la, L, F, G, hP, hla⟩
            clear hP hla tk g1 g2 g3 g4
            go_wp2_with fail
            go_loopw [17] (fun nv wr3 => (∃ n : Int, nv = .int .i64 n ∧ -1 ≤ n ∧ n ≤ 65536) ∧ Pm w wr3 A B gl gm most (ops.length : Int)) (fun nv _ => (intOf nv + 1).toNat)
            case atStart => exact ⟨⟨_, rfl, by omega, hL⟩, HP2.out⟩
            case round =>
              clear HP2 r1 r2 r3 hL
              obtain ⟨⟨n, rfl, hn1, hn2⟩, la, L, F, G, hP, hla⟩ := hrel
              by_cases hn : 0 ≤ n
              · have hnd : decide (0 ≤ n) = true := decide_eq_true hn
                have hPd := hP.below ((Below.refl _ _).drew)
                have HON := hid (one_pop (hPd.t 0 (by omega)) false 0 0 (by have := hla 0 (by omega); omega))
                have HS := hid (hPd.cells 0 (by omega))
                obtain ⟨r1, r2⟩ := HS.out
                have HAF : Hid (∀ w1, TwEnd _ w1 (A 0) (B 0) most (la 0) (popL (L 0)) (F 0) (G 0) → _) := hid fun w1 he => Pm.pop hPd hla 0 (by omega) he (hla 0 (by omega))
                unfold opV at HON
                clear hP hPd hla
                go_wp2_with fail
                go_region_held3 (fun w' => w'.cell? ⟨gl, 0, none⟩ = some (.pointer (some ⟨A 0, 0, none⟩)) ∧ w'.cell? ⟨gm, 0, none⟩ = some (.pointer (some ⟨B 0, 0, none⟩))) ((first | exact HS.out | exact HS1.out | go_keep | fail)) ((first
                  | (go_at_call 17; refine Calls.mono HON.out ?_; rintro e w1 ⟨rfl, he⟩; have HQ := hid (HAF.out w1 he); have HS1 := hid HQ.out.2; clear he)
                  | fail))
                all_goals
                  go_wp2_with fail
                  go_roundw
                  case rel => exact ⟨⟨n - 1, by go_num, by omega, by omega⟩, HQ.out.1⟩
                  case measure => simp [intOf]; omega
              · have hnd : decide (0 ≤ n) = false := decide_eq_false hn
                have HP2 : Hid (Pm w _ A B gl gm most (ops.length : Int)) := hid ⟨la, L, F, G, hP, hla⟩
                clear hP hla
                go_wp2_with fail
                go_roundw
                case rel => exact ⟨.inr (.inl rfl), HP2.out⟩
                case measure => simp [intOf]
          · obtain ⟨la, L, F, G, hP, hla⟩ := hPm
            have tk := hP.t 1 (by omega)
            obtain ⟨v, g1, g2, g3, g4, _⟩ := id tk.b
            obtain ⟨p, c, rfl⟩ := g2.form
            obtain ⟨r1, r2⟩ := hP.cells 1 (by omega)
            have r3 : wr2.cell? ⟨B 1, 2, none⟩ = some (.slice p (L 1).length c) := cell_box g1 rfl
            have hL : ((L 1).length : Int) ≤ 65536 := by omega
            have HP2 : Hid (Pm w wr2 A B gl gm most (ops.length : Int)) := hid ⟨la, L, F, G, hP, hla⟩
            clear hP hla tk g1 g2 g3 g4
            go_wp2_with fail
            go_loopw [17] (fun nv wr3 => (∃ n : Int, nv = .int .i64 n ∧ -1 ≤ n ∧ n ≤ 65536) ∧ Pm w wr3 A B gl gm most (ops.length : Int)) (fun nv _ => (intOf nv + 1).toNat)
            case atStart => exact ⟨⟨_, rfl, by omega, hL⟩, HP2.out⟩
            case round =>
              clear HP2 r1 r2 r3 hL
              obtain ⟨⟨n, rfl, hn1, hn2⟩, la, L, F, G, hP, hla⟩ := hrel
              by_cases hn : 0 ≤ n
              · have hnd : decide (0 ≤ n) = true := decide_eq_true hn
                have hPd := hP.below ((Below.refl _ _).drew)
                have HON := hid (one_pop (hPd.t 1 (by omega)) false 0 0 (by have := hla 1 (by omega); omega))
                have HS := hid (hPd.cells 1 (by omega))
                obtain ⟨r1, r2⟩ := HS.out
                have HAF : Hid (∀ w1, TwEnd _ w1 (A 1) (B 1) most (la 1) (popL (L 1)) (F 1) (G 1) → _) := hid fun w1 he => Pm.pop hPd hla 1 (by omega) he (hla 1 (by omega))
                unfold opV at HON
                clear hP hPd hla
                go_wp2_with fail
                go_region_held3 (fun w' => w'.cell? ⟨gl, 1, none⟩ = some (.pointer (some ⟨A 1, 0, none⟩)) ∧ w'.cell? ⟨gm, 1, none⟩ = some (.pointer (some ⟨B 1, 0, none⟩))) ((first | exact HS.out | exact HS1.out | go_keep | fail)) ((first
                  | (go_at_call 17; refine Calls.mono HON.out ?_; rintro e w1 ⟨rfl, he⟩; have HQ := hid (HAF.out w1 he); have HS1 := hid HQ.out.2; clear he)
                  | fail))
                all_goals
                  go_wp2_with fail
                  go_roundw
                  case rel => exact ⟨⟨n - 1, by go_num, by omega, by omega⟩, HQ.out.1⟩
                  case measure => simp [intOf]; omega
              · have hnd : decide (0 ≤ n) = false := decide_eq_false hn
                have HP2 : Hid (Pm w _ A B gl gm most (ops.length : Int)) := hid ⟨la, L, F, G, hP, hla⟩
                clear hP hla
                go_wp2_with fail
                go_roundw
                case rel => exact ⟨.inr (.inr rfl), HP2.out⟩
                case measure => simp [intOf]
          · obtain ⟨la, L, F, G, hP, hla⟩ := hPm
            have HL := hid hP.low
            clear hP hla
            go_wp2_with fail
            go_ret
            exact ⟨rfl, HL.out⟩
end Go.Proofs.Ytchjdpmgocapjaa
