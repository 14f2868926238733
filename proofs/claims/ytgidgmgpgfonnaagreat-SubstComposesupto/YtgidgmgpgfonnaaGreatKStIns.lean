import Derived.Test.YtgidgmgpgfonnaaGreatKStRot
/- What the insertion sort of the library's stable sort does to a row of items. -/
namespace Go.Proofs.YtgidgmgpgfonnaaGreat
open Go.RowKit Go.Deep

/-- Binds by their names. -/
def cmpK (a b : ByteArray) : Int := Lib.compareBytes a.data.toList b.data.toList
def ltI (x y : Bk) : Bool := decide (cmpK x.1 y.1 < 0)
theorem cmp_lt (x y : Bk) : cmpK x.1 y.1 < 0 ↔ ltI x y = true := by simp [ltI]
theorem swoI : Swo ltI := by
  refine ⟨fun x => ?_, fun x y z h1 h2 => (cmp_lt x z).1 ?_, fun x y z h => ?_⟩
  · cases h : ltI x x with
    | false => rfl
    | true =>
      have h1 := (cmp_lt x x).2 h
      unfold cmpK at h1
      rw [bytes_refl] at h1
      omega
  · have a := (cmp_lt x y).2 h1
    have b := (cmp_lt y z).2 h2
    unfold cmpK at *
    exact (bytes_cons x.1.data.toList y.1.data.toList z.1.data.toList).lt a b
  · have h0 := (cmp_lt x z).2 h
    rw [← cmp_lt, ← cmp_lt]
    unfold cmpK at *
    have h1 := bytes_anti x.1.data.toList y.1.data.toList
    have h2 := bytes_anti y.1.data.toList z.1.data.toList
    have h3 := bytes_anti x.1.data.toList z.1.data.toList
    have c := bytes_cons z.1.data.toList y.1.data.toList x.1.data.toList
    by_cases e1 : Lib.compareBytes x.1.data.toList y.1.data.toList < 0
    · exact .inl e1
    · by_cases e2 : Lib.compareBytes y.1.data.toList z.1.data.toList < 0
      · exact .inr e2
      · exfalso
        by_cases z1 : Lib.compareBytes z.1.data.toList y.1.data.toList = 0
        · have := c.l z1
          omega
        · by_cases z2 : Lib.compareBytes y.1.data.toList x.1.data.toList = 0
          · have := c.r z2
            omega
          · have := c.lt (by omega) (by omega)
            omega
set_option maxRecDepth 100000 in
set_option maxHeartbeats 2000000 in
/-- Compose's closure. -/
theorem gcmp_any (x y : Bk) (w : World) : Calls Tryz.prog 30 #[.agg #[.string x.1, .string x.2.x.1, .int .i64 x.2.x.2, .slice x.2.a (lenF x.2.l) x.2.c], .agg #[.string y.1, .string y.2.x.1, .int .i64 y.2.x.2, .slice y.2.a (lenF y.2.l) y.2.c]] w fun e w' => e = .returned (.int .i64 (cmpK x.1 y.1)) ∧ Below w.heap.size w w' := by
  obtain ⟨xn, ⟨⟨x1, x2⟩, xl, xa, xc⟩⟩ := x
  obtain ⟨yn, ⟨⟨y1, y2⟩, yl, ya, yc⟩⟩ := y
  have HB := hid fun W => Tryz.strings_Compare xn yn W
  dsimp only
  unfold cmpK
  obtain ⟨c, hc⟩ : ∃ c, Lib.compareBytes xn.data.toList yn.data.toList = c := ⟨_, rfl⟩
  rw [hc] at HB ⊢
  clear hc
  have b1 := alloc_below0 w (.cells #[.string xn, .string x1, .int .i64 x2, .slice xa (lenF xl) xc] 43)
  have b2 := alloc_below0 (w.alloc (.cells #[.string xn, .string x1, .int .i64 x2, .slice xa (lenF xl) xc] 43)) (.cells #[.string yn, .string y1, .int .i64 y2, .slice ya (lenF yl) yc] 43)
  have L2 := hid (b1.trans (b2.mono b1.size))
  clear b1 b2
  go_enter Tryz.func30, Tryz.ntmps30
  go_wp2_with fail
  refine (HB.out _).mono ?_
  rintro e w1 ⟨rfl, rfl⟩
  go_wp2
  go_ret
  exact ⟨rfl, L2.out⟩
/-- The order asks nothing of memory. -/
structure Gb (w : World) (g gb : Nat) : Prop where
  triv : w = w ∧ g = g ∧ gb = gb
theorem Gb.fr {w W : World} {g gb : Nat} (_h : Gb w g gb) (_hf : Fr (fun q => q = g) w W) : Gb W g gb := ⟨rfl, rfl, rfl⟩
abbrev cmpV (_gb : Nat) : Value := .func (.func 30) #[] #[]
set_option maxRecDepth 100000 in
set_option maxHeartbeats 8000000 in
theorem insertion_any (g cap gb : Nat) (X S Y : List Bk) (w : World) (hg : Gb w g gb) (hR : Rw bkCells w g cap (X ++ S ++ Y)) (hn : (X ++ S ++ Y).length ≤ 2097152) :
    Calls Tryz.prog 76 #[.slice (some ⟨g, 0, none⟩) (X ++ S ++ Y).length cap, .int .i64 X.length, .int .i64 (X ++ S).length, cmpV gb] w fun e w' => e = .returned (.tuple #[]) ∧ ∃ S', Sd ltI S' ∧ Stb ltI S S' ∧ So bkCells w g cap (X ++ S' ++ Y) w' := by
  obtain ⟨n, hN⟩ : ∃ n, (X ++ S ++ Y).length = n := ⟨_, rfl⟩
  obtain ⟨b, hb⟩ : ∃ b, (X ++ S).length = b := ⟨_, rfl⟩
  obtain ⟨a, ha⟩ : ∃ a, X.length = a := ⟨_, rfl⟩
  have hN' : X.length + S.length + Y.length = n := by rw [← hN]; simp only [List.length_append]
  have hb' : X.length + S.length = b := by rw [← hb]; simp only [List.length_append]
  rw [hN] at hn ⊢
  rw [hb, ha]
  have HR := hid hR; have HG := hid hg
  have HX : Hid (X.length = a) := hid ha
  have hab : a ≤ b := by omega
  have hbn : b ≤ n := by omega
  have HS : Hid (S.length = b - a) := hid (by omega)
  have HY : Hid (Y.length = n - b) := hid (by omega)
  clear hR hg hN hb ha hN' hb'
  go_enter Tryz.func76, Tryz.ntmps76
  go_wp2_with fail
  go_loopw [8, 9] (fun iv _ wr => ∃ (i : Nat) (P Q : List Bk), iv = .int .i64 i ∧ a + 1 ≤ i ∧ i ≤ b + 1 ∧ (i ≤ b → P.length = i - a) ∧ P.length + Q.length = b - a ∧ (b < i → Q = []) ∧ Sd ltI P ∧ Stb ltI S (P ++ Q) ∧ So bkCells w g cap (X ++ P ++ Q ++ Y) wr) (fun iv _ _ => b + 1 - (intOf iv).toNat)
  case atStart =>
    refine ⟨a + 1, S.take 1, S.drop 1, by go_num, Nat.le_refl _, by omega, fun h => by rw [List.length_take, HS.out]; omega, by rw [List.length_take, List.length_drop, HS.out]; omega, fun h => List.drop_eq_nil_of_le (by rw [HS.out]; omega), ?_, by rw [List.take_append_drop]; exact Stb.refl _, ⟨by rw [List.append_assoc X, List.take_append_drop]; exact HR.out, Fr.refl _ _⟩⟩
    match S with
    | [] => exact List.Pairwise.nil
    | x :: r => exact List.pairwise_singleton _ _
  case round =>
    obtain ⟨i, P, Q, rfl, hai, hib, hPl, hPQ, hQn, hsP, hstb, hso⟩ := hrel
    by_cases hlt : i < b
    · obtain ⟨x, R, hQ⟩ : ∃ x R, Q = x :: R := by
        match Q, hPQ with
        | [], h => simp at h; have := hPl (by omega); omega
        | x :: R, _ => exact ⟨x, R, rfl⟩
      subst hQ
      have hP := hPl (by omega)
      rw [List.length_cons] at hPQ
      have HSO := hid hso; have HSP := hid hsP; have HST := hid hstb
      clear hso hsP hstb hPl hQn
      go_wp2_with fail
      go_loopw [9] (fun jv wr2 => ∃ (j : Nat) (P1 P2 : List Bk), jv = .int .i64 j ∧ P1 ++ P2 = P ∧ a + P1.length = j ∧ (∀ z ∈ P2, ltI x z = true) ∧ So bkCells w g cap (X ++ P1 ++ x :: (P2 ++ R ++ Y)) wr2) (fun jv _ => (intOf jv).toNat)
      case atStart => exact ⟨i, P, [], rfl, by simp, by omega, fun z hz => absurd hz (by simp), by have h := HSO.out; simp only [List.append_assoc, List.cons_append, List.nil_append] at h ⊢; exact h⟩
      case round =>
        obtain ⟨j, P1, P2, rfl, hPP, hj, hlt2, hso⟩ := hrel
        have HSJ := hid hso; have HL2 := hid hlt2; have HPP := hid hPP
        have hlen : P1.length + P2.length = P.length := by rw [← hPP, List.length_append]
        have hout : (∀ z ∈ P1, Le ltI z x) → ∃ (P' : List Bk), P'.length = i + 1 - a ∧ Sd ltI P' ∧ Stb ltI S (P' ++ R) ∧ P' = P1 ++ x :: P2 := fun hz => by
          have h := put_in swoI P1 P2 x (by rw [hPP]; exact HSP.out) hz hlt2
          refine ⟨P1 ++ x :: P2, by simp only [List.length_append, List.length_cons]; omega, h.1, ?_, rfl⟩
          have h2 := HST.out
          rw [← hPP, show P1 ++ P2 ++ x :: R = (P1 ++ P2 ++ [x]) ++ R by simp] at h2
          exact h2.trans (h.2.app (Stb.refl R))
        have HOUT := hid hout
        clear hso hlt2 hPP hout
        by_cases hja : a < j
        · obtain ⟨P0, z, hP1⟩ : ∃ P0 z, P1 = P0 ++ [z] := by
            have hne : P1 ≠ [] := fun h => by rw [h] at hj; simp at hj; omega
            exact ⟨P1.dropLast, P1.getLast hne, (List.dropLast_concat_getLast hne).symm⟩
          subst hP1
          have hl0 : (P0 ++ [z]).length = P0.length + 1 := by simp
          obtain ⟨jp, rfl⟩ : ∃ jp, j = jp + 1 := ⟨j - 1, by omega⟩
          have hso0 : So bkCells w g cap ((X ++ P0) ++ z :: ([] ++ x :: (P2 ++ R ++ Y))) wr := by
            have h := HSJ.out
            simp only [List.append_assoc, List.cons_append, List.nil_append] at h ⊢
            exact h
          have X0 := hso0.exch jp (jp + 1) (by rw [List.length_append, HX.out]; omega) (by rw [List.length_append, HX.out, List.length_nil]; omega)
          obtain ⟨c0, c1, c2, c3, f0, f1, f2, f3⟩ := X0.cx
          obtain ⟨d0, d1, d2, d3, k0, k1, k2, k3⟩ := X0.cy
          have HX0 := hid fun (W : World) (hW : Below wr.heap.size wr W) => (hso0.below hW).exch jp (jp + 1) (by rw [List.length_append, HX.out]; omega) (by rw [List.length_append, HX.out, List.length_nil]; omega)
          obtain ⟨cv, hcv⟩ : ∃ cv, cmpK x.1 z.1 = cv := ⟨_, rfl⟩
          have HN : Hid (∀ W, Below wr.heap.size wr W → Calls Tryz.prog 30 #[.agg #[.string x.1, .string x.2.x.1, .int .i64 x.2.x.2, .slice x.2.a (lenF x.2.l) x.2.c], .agg #[.string z.1, .string z.2.x.1, .int .i64 z.2.x.2, .slice z.2.a (lenF z.2.l) z.2.c]] W fun e w' => e = .returned (.int .i64 cv) ∧ Below W.heap.size W w') := hid fun W _ => by
            rw [← hcv]
            exact gcmp_any x z W
          have hcl := cmp_lt x z
          rw [hcv] at hcl
          have HCL := hid hcl
          have hjn : jp + 1 < n := by omega
          clear X0 hso0 hcv hcl hlen
          have jz : (a : Int) < (jp : Int) + 1 := by omega
          have hjz : (jp : Int) + 1 < (n : Int) := by omega
          have hjz2 : (jp : Int) < (n : Int) := by omega
          go_wp2_with fail
          have hne := later_some wr
          have l0 := later_cell c0; have l1 := later_cell c1; have l2 := later_cell c2; have l3 := later_cell c3
          have m0 := later_cell d0; have m1 := later_cell d1; have m2 := later_cell d2; have m3 := later_cell d3
          clear c0 c1 c2 c3 d0 d1 d2 d3 f0 f1 f2 f3 k0 k1 k2 k3
          refine wp_region_later (by kernel_rfl) (by kernel_rfl) ?_
          repeat (go_big_quiet_step (first | (go_at_call 30; with_reducible refine calls_later (HN.out _ ?_); exact Later.below _) | fail))
          refine wpQuiet_nil ?_
          intro _ hw'
          obtain ⟨b4, hw''⟩ := hw'
          subst hw''
          have X0 := HX0.out b4.now b4.below
          have HSB := hid (HSJ.out.below b4.below)
          clear l0 l1 l2 l3 m0 m1 m2 m3 hne HN HX0
          by_cases hcv : cv < 0
          · obtain ⟨c0, c1, c2, c3, f0, f1, f2, f3⟩ := X0.cx
            obtain ⟨d0, d1, d2, d3, k0, k1, k2, k3⟩ := X0.cy
            have HS2 := hid X0.so2
            have hne : jp + 1 ≠ jp := by omega
            have mixed : Tryz.prog.follows .mixedOrders = true := by kernel_rfl
            have hzlt := HCL.out.1 hcv
            clear X0
            go_wp2_with fail
            go_big_region_o
            all_goals go_wp2
            all_goals
              go_roundw
              case rel =>
                refine ⟨jp, P0, z :: P2, by go_num, by rw [← HPP.out]; simp, by omega, fun q hq => ?_, ?_⟩
                · rcases List.mem_cons.1 hq with rfl | hq
                  · exact hzlt
                  · exact HL2.out q hq
                · have h := HS2.out
                  simp only [List.append_assoc, List.cons_append, List.nil_append] at h ⊢
                  exact h
              case measure => simp [intOf]
          · have hzle : Le ltI z x := by
              unfold Le
              cases h : ltI x z with
              | false => rfl
              | true => exact absurd (HCL.out.2 h) hcv
            have hall : ∀ q ∈ P0 ++ [z], Le ltI q x := fun q hq => by
              rcases List.mem_append.1 hq with hq | hq
              · have h := HSP.out
                rw [← HPP.out] at h
                have h2 := (sd_parts (sd_parts h).1).2.2 q hq z (by simp)
                exact swoI.le_trans h2 hzle
              · rw [List.mem_singleton.1 hq]
                exact hzle
            obtain ⟨P', g1, g2, g3, g4⟩ := HOUT.out hall
            have G1 := hid g1; have G2 := hid g2; have G3 := hid g3; have G4 := hid g4
            clear X0 hall hzle g1 g2 g3 g4
            go_wp2_with fail
            go_roundw
            case rel =>
              refine ⟨i + 1, P', R, by go_num, by omega, by omega, fun _ => G1.out, by have := G1.out; omega, fun h => absurd h (by omega), G2.out, G3.out, ?_⟩
              have h := HSB.out
              rw [G4.out]
              simp only [List.append_assoc, List.cons_append, List.nil_append] at h ⊢
              exact h
            case measure => simp [intOf]; omega
        · have hj0 : P1 = [] := List.eq_nil_of_length_eq_zero (by omega)
          obtain ⟨P', g1, g2, g3, g4⟩ := HOUT.out (fun q hq => by rw [hj0] at hq; cases hq)
          have G1 := hid g1; have G2 := hid g2; have G3 := hid g3; have G4 := hid g4
          have hjz : ¬ (a : Int) < (j : Int) := by omega
          have hjz' : decide ((j : Int) > (a : Int)) = false := decide_eq_false (by omega)
          have mixed : Tryz.prog.follows .mixedOrders = true := by kernel_rfl
          clear g1 g2 g3 g4 hlen hj0
          go_wp2_with fail
          go_big_region_o
          all_goals go_wp2
          all_goals
            go_roundw
            case rel =>
              refine ⟨i + 1, P', R, by go_num, by omega, by omega, fun _ => G1.out, by have := G1.out; omega, fun h => absurd h (by omega), G2.out, G3.out, ?_⟩
              have h := HSJ.out.drew
              rw [G4.out]
              simp only [List.append_assoc, List.cons_append] at h ⊢
              exact h
            case measure => simp [intOf]; omega
    · have hQ : Q = [] := by
        by_cases hbi : b < i
        · exact hQn hbi
        · have := hPl (by omega)
          exact List.eq_nil_of_length_eq_zero (by omega)
      subst hQ
      have HSO := hid hso; have HSP := hid hsP; have HST := hid hstb
      clear hso hsP hstb hPl hQn
      go_wp2_with fail
      go_end0
      refine ⟨rfl, P, HSP.out, ?_, ?_⟩
      · have h := HST.out
        rwa [List.append_nil] at h
      · have h := HSO.out
        rwa [List.append_nil] at h
end Go.Proofs.YtgidgmgpgfonnaaGreat
