import Derived.Test.YtgidgmgpgfonnaaGreatKStSym
/- What the library's stable sort does to a row of items. -/
namespace Go.Proofs.YtgidgmgpgfonnaaGreat
open Go.RowKit Go.Deep
section
variable {α : Type}
theorem seg_split (r : List α) (a q : Nat) : r.take a ++ (r.drop a).take q ++ r.drop (a + q) = r := by
  rw [List.append_assoc, ← List.drop_drop, List.take_append_drop, List.take_append_drop]
theorem seg_split2 (r : List α) (a p q : Nat) : r.take a ++ (r.drop a).take p ++ (r.drop (a + p)).take q ++ r.drop (a + p + q) = r := by
  rw [← List.take_add, seg_split]
theorem seg_low {X Z : List α} {p q : Nat} (h : p + q ≤ X.length) : ((X ++ Z).drop p).take q = (X.drop p).take q := by
  rw [List.drop_append_of_le_length (by omega), List.take_append_of_le_length (by rw [List.length_drop]; omega)]
theorem seg_lows {X Z Z' : List α} {p q : Nat} (h : p + q ≤ X.length) : ((X ++ Z).drop p).take q = ((X ++ Z').drop p).take q := by rw [seg_low h, seg_low h]
theorem seg_high1 {Z Y : List α} {p : Nat} (hp : Z.length ≤ p) : (Z ++ Y).drop p = Y.drop (p - Z.length) := by
  rw [List.drop_append, List.drop_eq_nil_of_le hp, List.nil_append]
theorem seg_high {X S S' Y : List α} (h : S'.length = S.length) {p q : Nat} (hp : X.length + S.length ≤ p) : ((X ++ S' ++ Y).drop p).take q = ((X ++ S ++ Y).drop p).take q := by
  rw [seg_high1 (Z := X ++ S') (by rw [List.length_append]; omega), seg_high1 (Z := X ++ S) (by rw [List.length_append]; omega), List.length_append, List.length_append, h]
theorem seg_mid {X S Y : List α} {p q : Nat} (hp : X.length = p) (hq : S.length = q) : ((X ++ S ++ Y).drop p).take q = S := by
  subst hp hq
  rw [List.append_assoc, List.drop_left, List.take_left]
theorem seg_end {X S : List α} {p q : Nat} (hp : X.length = p) (hq : S.length ≤ q) : ((X ++ S ++ []).drop p).take q = S := by
  subst hp
  rw [List.append_nil, List.drop_left, List.take_of_length_le hq]
theorem seg_none {r : List α} {p q : Nat} (h : r.length ≤ p) : (r.drop p).take q = [] := by
  rw [List.drop_eq_nil_of_le h, List.take_nil]
end
theorem insertion_at (g cap gb : Nat) (l X S Y : List Bk) (a b n : Nat) (w : World) (hl : l = X ++ S ++ Y) (ha : X.length = a) (hb : a + S.length = b) (hn : l.length = n) (hg : Gb w g gb) (hR : Rw bkCells w g cap l) (hz : l.length ≤ 2097152) :
    Calls Tryz.prog 76 #[.slice (some ⟨g, 0, none⟩) n cap, .int .i64 a, .int .i64 b, cmpV gb] w fun e w' => e = .returned (.tuple #[]) ∧ ∃ S', Sd ltI S' ∧ Stb ltI S S' ∧ So bkCells w g cap (X ++ S' ++ Y) w' := by
  subst hl ha hb hn
  have h := insertion_any g cap gb X S Y w hg hR hz
  have e : (X ++ S).length = X.length + S.length := List.length_append
  rw [e] at h
  exact h
/-- Each block of so many is in order. -/
def Blk (bs : Nat) (r : List Bk) : Prop := ∀ i, Sd ltI ((r.drop (i * bs)).take bs)
set_option maxRecDepth 100000 in
set_option maxHeartbeats 8000000 in
theorem stable_any (g cap gb : Nat) (l : List Bk) (w : World) (hg : Gb w g gb) (hR : Rw bkCells w g cap l) (hn : l.length ≤ 2097152) :
    Calls Tryz.prog 54 #[.slice (some ⟨g, 0, none⟩) l.length cap, .int .i64 l.length, cmpV gb] w fun e w' => e = .returned (.tuple #[]) ∧ ∃ R, Sd ltI R ∧ Stb ltI l R ∧ So bkCells w g cap R w' := by
  obtain ⟨n, hN⟩ : ∃ n, l.length = n := ⟨_, rfl⟩
  rw [hN] at hn ⊢
  have HG := hid hg; have HR := hid hR; have HN := hid hN
  clear hg hR hN
  go_enter Tryz.func54, Tryz.ntmps54
  go_wp2_with fail
  go_loopw [7, 8] (fun av bv wr => ∃ (j : Nat) (r : List Bk), av = .int .i64 ((j * 20 : Nat) : Int) ∧ bv = .int .i64 ((j * 20 + 20 : Nat) : Int) ∧ j * 20 ≤ n ∧ Stb ltI l r ∧ (∀ i, i < j → Sd ltI ((r.drop (i * 20)).take 20)) ∧ So bkCells w g cap r wr) (fun av _ _ => n - (intOf av).toNat)
  case atStart => exact ⟨0, l, rfl, rfl, Nat.zero_le _, Stb.refl _, fun i hi => absurd hi (by omega), HR.out, Fr.refl _ _⟩
  case round =>
    obtain ⟨j, r, rfl, rfl, hjn, hst, hbl, hso⟩ := hrel
    have HST := hid hst; have HBL := hid hbl; have HSO := hid hso
    have hrl : r.length = n := by rw [← hst.len, HN.out]
    have HRL := hid hrl
    have HGr := hid (HG.out.fr hso.fr)
    clear hst hbl hso
    obtain ⟨a, ha⟩ : ∃ a, j * 20 = a := ⟨_, rfl⟩
    rw [ha] at hjn ⊢
    by_cases hlt : a + 20 ≤ n
    · have hc := insertion_at g cap gb r (r.take a) ((r.drop a).take 20) (r.drop (a + 20)) a (a + 20) n wr (seg_split r a 20).symm (by rw [List.length_take]; omega) (by rw [List.length_take, List.length_drop]; omega) hrl HGr.out HSO.out.row (by omega)
      have HC := hid hc; have HAJ := hid ha
      clear hc hrl ha
      generalize hb : a + 20 = b at hlt HC ⊢
      have HBB := hid hb
      clear hb
      go_wp2_with fail
      refine HC.out.mono ?_
      rintro e w1 ⟨rfl, S', hs1, hs2, hs3⟩
      have HS1 := hid hs1; have HS2 := hid hs2; have HS3 := hid (HSO.out.trans hs3)
      clear hs1 hs2 hs3
      go_wp2_with fail
      go_roundw
      case rel =>
        have hb := HBB.out; have haj := HAJ.out; have hrl := HRL.out
        have hlS : S'.length = ((r.drop a).take 20).length := HS2.out.len.symm
        have hl20 : S'.length = 20 := by rw [hlS, List.length_take, List.length_drop]; omega
        have htk : (r.take a).length = a := by rw [List.length_take]; omega
        refine ⟨j + 1, r.take a ++ S' ++ r.drop (a + 20), by congr 1; omega, by congr 1; omega, by omega, ?_, ?_, by have h3 := HS3.out; rw [← hb] at h3; exact h3⟩
        · refine HST.out.trans ?_
          have h := ((Stb.refl (lt := ltI) (r.take a)).app HS2.out).app (Stb.refl (lt := ltI) (r.drop (a + 20)))
          rw [seg_split] at h
          exact h
        · intro i hi
          by_cases hij : i < j
          · have h := HBL.out i hij
            have e : ((r.take a ++ S' ++ r.drop (a + 20)).drop (i * 20)).take 20 = (r.drop (i * 20)).take 20 := by
              conv => rhs; rw [← seg_split r a 20]
              rw [List.append_assoc, List.append_assoc]
              exact seg_lows (by rw [htk]; omega)
            rw [e]
            exact h
          · rw [show i * 20 = a by omega, seg_mid htk hl20]
            exact HS1.out
      case measure => simp [intOf]; have := HBB.out; omega
    · have hc := insertion_at g cap gb r (r.take a) (r.drop a) [] a n n wr (by rw [List.append_nil, List.take_append_drop]) (by rw [List.length_take]; omega) (by rw [List.length_drop]; omega) hrl HGr.out HSO.out.row (by omega)
      have HC := hid hc; have HAJ := hid ha
      clear hc hrl ha
      go_wp2_with fail
      refine HC.out.mono ?_
      rintro e w1 ⟨rfl, S', hs1, hs2, hs3⟩
      have hS3 := HSO.out.trans hs3
      have hBlk : Blk 20 (r.take a ++ S' ++ []) := by
        have haj := HAJ.out; have hrl := HRL.out
        have hlS : S'.length = (r.drop a).length := hs2.len.symm
        rw [List.length_drop] at hlS
        have htk : (r.take a).length = a := by rw [List.length_take]; omega
        intro i
        by_cases hij : i < j
        · have h := HBL.out i hij
          have e : ((r.take a ++ S' ++ []).drop (i * 20)).take 20 = (r.drop (i * 20)).take 20 := by
            conv => rhs; rw [← List.take_append_drop a r]
            rw [List.append_assoc]
            exact seg_lows (by rw [htk]; omega)
          rw [e]
          exact h
        · by_cases hie : i = j
          · rw [hie, haj, seg_end htk (by omega)]
            exact hs1
          · rw [seg_none (by simp only [List.length_append, htk, List.length_nil]; omega)]
            exact List.Pairwise.nil
      have hSt : Stb ltI l (r.take a ++ S' ++ []) := by
        refine HST.out.trans ?_
        have h := (Stb.refl (lt := ltI) (r.take a)).app hs2
        rw [List.take_append_drop] at h
        rw [List.append_nil]
        exact h
      generalize r.take a ++ S' ++ [] = r1 at hBlk hSt hS3
      have HBlk := hid hBlk; have HSt := hid hSt; have HS3 := hid hS3
      clear hBlk hSt hS3 hs1 hs2 hs3
      clear HAJ HST HBL HRL HSO HC HGr
      go_wp2_with fail
      go_loopw [6, 7, 8, 9] (fun bv _ _ _ wr2 => ∃ (bs : Nat) (r : List Bk), bv = .int .i64 bs ∧ 20 ≤ bs ∧ bs ≤ 2 * n + 20 ∧ Stb ltI l r ∧ Blk bs r ∧ So bkCells w g cap r wr2) (fun bv _ _ _ _ => n - (intOf bv).toNat)
      case atStart => exact ⟨20, r1, rfl, by omega, by omega, HSt.out, HBlk.out, HS3.out⟩
      case round =>
        obtain ⟨bs, r, rfl, hbs, hbn, hst, hbk, hso⟩ := hrel
        have HST := hid hst; have HBK := hid hbk; have HSO := hid hso
        clear hst hbk hso
        by_cases hbl : bs < n
        · obtain ⟨D, hD⟩ : ∃ D, 2 * bs = D := ⟨_, rfl⟩
          have hDi : 2 * (bs : Int) = (D : Int) := by omega
          have hDb : D ≤ 2097152 * 2 := by omega
          have hDs : bs < D := by omega
          have HD := hid hD
          clear hD
          go_wp2_with fail
          go_loopw [7, 8] (fun av bv wr3 => ∃ (j a b : Nat) (r : List Bk), av = .int .i64 a ∧ bv = .int .i64 b ∧ Hid (a = j * D) ∧ Hid (b = a + D) ∧ a ≤ n ∧ Stb ltI l r ∧ (∀ i, i < j → Sd ltI ((r.drop (i * D)).take D)) ∧ (∀ i, 2 * j ≤ i → Sd ltI ((r.drop (i * bs)).take bs)) ∧ So bkCells w g cap r wr3) (fun av _ _ => n - (intOf av).toNat)
          case atStart => exact ⟨0, 0, D, r, rfl, rfl, hid (by omega), hid (by omega), Nat.zero_le _, HST.out, fun i hi => absurd hi (by omega), fun i _ => HBK.out i, HSO.out⟩
          case round =>
            obtain ⟨j, a, b, r, rfl, rfl, HAJ, HBA, han, hst, hb1, hb2, hso⟩ := hrel
            have HST := hid hst; have HB1 := hid hb1; have HB2 := hid hb2; have HSO := hid hso
            have hrl : r.length = n := by rw [← hst.len, HN.out]
            have HRL := hid hrl
            have HGr := hid (HG.out.fr hso.fr)
            have hba := HBA.out; have hD := HD.out; have haj := HAJ.out
            have hab : j * D = 2 * j * bs := by rw [← hD, ← Nat.mul_assoc, Nat.mul_comm j 2]
            have hsA : Sd ltI ((r.drop a).take bs) := by
              have h := hb2 (2 * j) (Nat.le_refl _)
              rw [← hab, ← haj] at h
              exact h
            have hsB : Sd ltI ((r.drop (a + bs)).take bs) := by
              have h := hb2 (2 * j + 1) (by omega)
              rw [Nat.add_mul, ← hab, ← haj, Nat.one_mul] at h
              exact h
            have hlo : ∀ i, i < j → i * D + D ≤ a := fun i hi => by
              rw [haj, ← Nat.succ_mul]
              exact Nat.mul_le_mul_right D hi
            have hhi : ∀ i, j < i → a + D ≤ i * D := fun i hi => by
              rw [haj, ← Nat.succ_mul]
              exact Nat.mul_le_mul_right D hi
            have hhi2 : ∀ i, 2 * (j + 1) ≤ i → a + D ≤ i * bs := fun i hi => by
              have h := Nat.mul_le_mul_right bs hi
              rw [Nat.mul_add, Nat.add_mul, ← hab, ← haj] at h
              omega
            have HLO := hid hlo; have HHI := hid hhi; have HHI2 := hid hhi2
            have HSA := hid hsA
            clear hst hb1 hb2 hso hlo hhi hhi2 hab
            by_cases hlt : b ≤ n
            · have lA : ((r.drop a).take bs).length = bs := by rw [List.length_take, List.length_drop]; omega
              have lB : ((r.drop (a + bs)).take bs).length = bs := by rw [List.length_take, List.length_drop]; omega
              have hsp := seg_split2 r a bs bs
              have hc := symMerge_any (bs + bs) g cap gb (r.take a) ((r.drop a).take bs) ((r.drop (a + bs)).take bs) (r.drop (a + bs + bs)) wr (by omega) (by omega) (by omega) HGr.out (by rw [hsp]; exact HSO.out.row) (by rw [hsp]; omega) hsA hsB a (a + bs) b n (by rw [List.length_take]; omega) (by omega) (by omega) (by rw [hsp]; exact hrl)
              have HC := hid hc; have HSP := hid hsp; have LA := hid lA; have LB := hid lB
              clear hc hsp hsA hsB hrl lA lB hba hD haj
              obtain ⟨M, hM⟩ : ∃ M, a + bs = M := ⟨_, rfl⟩
              have hMi : (a : Int) + (bs : Int) = (M : Int) := by omega
              rw [hM] at HC
              have hMb : M ≤ 2097152 * 2 := by omega
              have HM := hid hM
              clear hM
              go_wp2_with fail
              refine HC.out.mono ?_
              rintro e w2 ⟨rfl, C, hc1, hc2, hs3⟩
              have HC1 := hid hc1; have HC2 := hid hc2; have HS3 := hid (HSO.out.trans hs3)
              clear hc1 hc2 hs3
              have hbD : b + D ≤ 2097152 * 4 := by omega
              go_wp2_with fail
              go_roundw
              case rel =>
                have hba := HBA.out; have hD := HD.out; have haj := HAJ.out; have hrl := HRL.out; have hM := HM.out
                have htk : (r.take a).length = a := by rw [List.length_take]; omega
                have hlC : C.length = D := by rw [← HC2.out.len, List.length_append]; have := LA.out; have := LB.out; rw [hM] at this; omega
                refine ⟨j + 1, b, b + D, r.take a ++ C ++ r.drop (M + bs), rfl, by first | rfl | go_num, hid (by rw [hba, haj, ← Nat.succ_mul]), hid rfl, hlt, ?_, ?_, ?_, HS3.out⟩
                · refine HST.out.trans ?_
                  have h := ((Stb.refl (lt := ltI) (r.take a)).app HC2.out).app (Stb.refl (lt := ltI) (r.drop (M + bs)))
                  rw [← List.append_assoc, ← hM, HSP.out, hM] at h
                  exact h
                · intro i hi
                  by_cases hij : i < j
                  · have h := HB1.out i hij
                    have e : ((r.take a ++ C ++ r.drop (M + bs)).drop (i * D)).take D = (r.drop (i * D)).take D := by
                      conv => rhs; rw [← HSP.out]
                      rw [List.append_assoc, List.append_assoc, List.append_assoc]
                      exact seg_lows (by rw [htk]; exact HLO.out i hij)
                    rw [e]
                    exact h
                  · rw [show i = j by omega, ← haj, seg_mid htk hlC]
                    exact HC1.out
                · intro i hi
                  have h := HB2.out i (by omega)
                  have e : ((r.take a ++ C ++ r.drop (M + bs)).drop (i * bs)).take bs = (r.drop (i * bs)).take bs := by
                    conv => rhs; rw [← HSP.out]
                    rw [List.append_assoc (r.take a) _ ((r.drop (a + bs)).take bs), ← hM]
                    have hlen := HC2.out.len.symm
                    rw [← hM] at hlen
                    refine seg_high hlen ?_
                    rw [htk, List.length_append, LA.out, LB.out]
                    have := HHI2.out i hi
                    omega
                  rw [e]
                  exact h
              case measure => simp [intOf]; have := HBA.out; omega
            · have HSB := hid hsB
              clear hsA hsB hba hD haj
              obtain ⟨M, hM⟩ : ∃ M, a + bs = M := ⟨_, rfl⟩
              have hMi : (a : Int) + (bs : Int) = (M : Int) := by omega
              have hMb : M ≤ 2097152 * 2 := by omega
              have HM := hid hM
              have hD2 : (bs : Int) * 2 = (D : Int) := by have := HD.out; omega
              clear hM
              go_upto_region 14 with fail
              clear hMi
              by_cases hMn : M < n
              · have hba := HBA.out; have hD := HD.out; have haj := HAJ.out; have hM := HM.out
                have lA : ((r.drop a).take bs).length = bs := by rw [List.length_take, List.length_drop]; omega
                have lB : ((r.drop M).take bs) = r.drop M := List.take_of_length_le (by rw [List.length_drop]; omega)
                have hsp : r.take a ++ (r.drop a).take bs ++ r.drop M ++ [] = r := by
                  rw [List.append_nil, ← hM]
                  exact seg_split r a bs
                have hsB2 := HSB.out
                rw [hM, lB] at hsB2
                have hc := symMerge_any (bs + bs) g cap gb (r.take a) ((r.drop a).take bs) (r.drop M) [] wr (by rw [lA, List.length_drop]; omega) (by omega) (by rw [List.length_drop]; omega) HGr.out (by rw [hsp]; exact HSO.out.row) (by rw [hsp]; omega) HSA.out hsB2 a M n n (by rw [List.length_take]; omega) (by omega) (by rw [List.length_drop]; omega) (by rw [hsp]; exact hrl)
                have HC := hid hc; have HSP := hid hsp; have LA := hid lA
                clear hc hsp hsB2 hrl lA lB hba hD haj hM
                go_wp2_with fail
                refine HC.out.mono ?_
                rintro e w2 ⟨rfl, C, hc1, hc2, hs3⟩
                have HC1 := hid hc1; have HC2 := hid hc2; have HS3 := hid (HSO.out.trans hs3)
                clear hc1 hc2 hs3
                go_wp2_with fail
                go_roundw
                case rel =>
                  have hba := HBA.out; have hD := HD.out; have haj := HAJ.out; have hrl := HRL.out; have hM := HM.out
                  have htk : (r.take a).length = a := by rw [List.length_take]; omega
                  have hlC : C.length = n - a := by rw [← HC2.out.len, List.length_append, LA.out, List.length_drop]; omega
                  refine ⟨D, r.take a ++ C ++ [], by first | rfl | go_num, by omega, by omega, ?_, ?_, HS3.out⟩
                  · refine HST.out.trans ?_
                    have h := ((Stb.refl (lt := ltI) (r.take a)).app HC2.out).app (Stb.refl (lt := ltI) ([] : List Bk))
                    rw [← List.append_assoc, HSP.out] at h
                    exact h
                  · intro i
                    by_cases hij : i < j
                    · have h := HB1.out i hij
                      have e : ((r.take a ++ C ++ []).drop (i * D)).take D = (r.drop (i * D)).take D := by
                        conv => rhs; rw [← HSP.out]
                        rw [List.append_assoc, List.append_assoc, List.append_assoc]
                        exact seg_lows (by rw [htk]; exact HLO.out i hij)
                      rw [e]
                      exact h
                    · by_cases hie : i = j
                      · rw [hie, ← haj, seg_end htk (by omega)]
                        exact HC1.out
                      · rw [seg_none (by simp only [List.length_append, htk, hlC, List.length_nil]; have := HHI.out i (by omega); omega)]
                        exact List.Pairwise.nil
                case measure => simp [intOf]; have := HD.out; omega
              · clear hrl
                go_wp2_with fail
                go_roundw
                case rel =>
                  have hba := HBA.out; have hD := HD.out; have haj := HAJ.out; have hrl := HRL.out; have hM := HM.out
                  refine ⟨D, r, by first | rfl | go_num, by omega, by omega, HST.out, ?_, HSO.out⟩
                  intro i
                  by_cases hij : i < j
                  · exact HB1.out i hij
                  · by_cases hie : i = j
                    · rw [hie, ← haj]
                      have h := HSA.out
                      rw [List.take_of_length_le (by rw [List.length_drop]; omega)] at h ⊢
                      exact h
                    · rw [seg_none (by have := HHI.out i (by omega); omega)]
                      exact List.Pairwise.nil
                case measure => simp [intOf]; have := HD.out; omega
        · go_wp2_with fail
          go_end0
          refine ⟨rfl, r, ?_, HST.out, HSO.out⟩
          have h := HBK.out 0
          rw [Nat.zero_mul, List.drop_zero, List.take_of_length_le (by rw [← HST.out.len, HN.out]; omega)] at h
          exact h
end Go.Proofs.YtgidgmgpgfonnaaGreat
