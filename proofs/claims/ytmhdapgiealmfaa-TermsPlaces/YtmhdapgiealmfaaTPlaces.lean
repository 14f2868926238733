/- The walk of TermsPlaces. -/
import Derived.Test.YtmhdapgiealmfaaTHead
import Derived.Test.YtmhdapgiealmfaaTermsCompares
import Derived.Test.YtmhdapgiealmfaaTRPut
import Derived.Laws.AppendOwnNone
namespace Go.Proofs.Ytmhdapgiealmfaa
open Go.RowKit Go.Deep

def encInt (i : Int) : Value := .int .i64 i
theorem own_empty3 (w : World) : (w.alloc (.cells #[] 3)).ownsRow w.heap.size 3 1 (.slice (some ⟨w.heap.size, 0, none⟩) 0 0) 0 [] :=
  ⟨rfl, Or.inr ⟨w.heap.size, 0, #[], rfl, Nat.le_refl _, heap_alloc_new w _, Nat.le_refl _, by simp, rfl, rfl⟩⟩
theorem int_one (l : List Int) : ∀ u ∈ l.map encInt, u.oneCell' = true := by
  intro u hu
  obtain ⟨x, _, rfl⟩ := List.mem_map.1 hu
  rfl
theorem ints_news {w : World} {ad : Addr} {n : Nat} {ps : List Int} (h : IntsAt w (some ad) n ps) : ∀ j u, (ps.map encInt)[j]? = some u → w.cell? (ad.add j) = some u := by
  intro j u hu
  rw [List.getElem?_map] at hu
  rcases Nat.lt_or_ge j ps.length with hlt | hge
  · rw [List.getElem?_eq_getElem hlt] at hu
    simp only [Option.map_some, Option.some.injEq] at hu
    subst hu
    obtain ⟨b, off, hb, hc⟩ := h.cells j hlt
    cases hb
    have e : (⟨b, off, none⟩ : Addr).add j = ⟨b, off + j, none⟩ := by unfold Addr.add; split <;> simp_all
    rw [e]
    exact hc
  · rw [List.getElem?_eq_none hge] at hu; cases hu

/-- What stays: the two arguments in their boxes, the lent term, the lent path with its mark. -/
structure Ground (w : World) (t u : Tn) (a ua : Option Addr) (c uc : Nat) (B : Nat) (a' : Option Addr) (c' : Nat) (g n : Nat) (ps : List Int) (W : World) : Prop where
  pair : Pair w t.1 a (lenF t.2) c u.1 ua (lenF u.2) uc W
  lent : LentIn W B t.1 a' c' t.2
  own : IntsAt W (some ⟨g, 0, none⟩) n ps
  mark : W.cell? ⟨g, n, none⟩ = some (.int .i64 77)
theorem Ground.below {w : World} {t u : Tn} {a ua : Option Addr} {c uc : Nat} {B : Nat} {a' : Option Addr} {c' : Nat} {g n : Nat} {ps : List Int} {W W' : World} (h : Ground w t u a ua c uc B a' c' g n ps W) (hb : Below W.heap.size W W') : Ground w t u a ua c uc B a' c' g n ps W' :=
  ⟨h.pair.below hb, h.lent.below hb, h.own.below hb, below_cell hb _ _ h.mark⟩
theorem ground_of {w : World} {t u : Tn} {a ua : Option Addr} {c uc : Nat} {B : Nat} {a' : Option Addr} {c' : Nat} {g n : Nat} {ps : List Int} {W2 W : World} (hn : n = ps.length) (hP : Pair w t.1 a (lenF t.2) c u.1 ua (lenF u.2) uc W2) (hL : LentIn W2 B t.1 a' c' t.2) (hb : Below W2.heap.size W2 W)
    (hc : ∀ j v, (ps.map encInt ++ [Value.int .i64 77])[j]? = some v → W.cell? ⟨g, 0 + j, none⟩ = some v) : Ground w t u a ua c uc B a' c' g n ps W := by
  refine ⟨hP.below hb, hL.below hb, ⟨hn, fun i hi => ⟨g, 0, rfl, hc i _ ?_⟩⟩, ?_⟩
  · rw [List.getElem?_append_left (by simpa using hi)]
    simp [hi, encInt]
  · have := hc n (.int .i64 77) (by rw [List.getElem?_append_right (by simp [hn])]; simp [hn])
    rwa [Nat.zero_add] at this
/-- An answer in its box. -/
structure Told (W : World) (A : Nat → Prop) (B : Nat) (x : Tn) (a : Option Addr) (c : Nat) : Prop where
  sep : SepTm W A x.1 a c x.2
  box : TBox W B x.1 a (lenF x.2) c
theorem Told.below {W W' : World} {A : Nat → Prop} {B : Nat} {x : Tn} {a : Option Addr} {c : Nat} (h : Told W A B x a c) (hb : Below W.heap.size W W') : Told W' A B x a c := ⟨h.sep.below hb, h.box.below hb⟩
structure Said (W : World) (B : Nat) (x : Tn) (a : Option Addr) (c : Nat) : Prop where
  at_ : TmAt W x.1 a c x.2
  box : TBox W B x.1 a (lenF x.2) c
theorem Said.below {W W' : World} {B : Nat} {x : Tn} {a : Option Addr} {c : Nat} (h : Said W B x a c) (hb : Below W.heap.size W W') : Said W' B x a c := ⟨h.at_.below hb, h.box.below hb⟩

set_option maxRecDepth 100000 in
set_option maxHeartbeats 4000000 in
theorem termsPlaces_walk (ps : List Int) (t u : Tn) (a ua : Option Addr) (c uc : Nat) (pa : Option Addr) (pn pc : Nat) (w : World) (hT : TmAt w t.1 a c t.2) (hU : TmAt w u.1 ua uc u.2) (hP : IntsAt w pa pn ps) (hnil : pa = none → pc = 0) (hpc : pn ≤ pc) (hpm : pc ≤ maxLen) (hfew : pn * 8 ≤ 140737488351232) :
    Calls Try.prog 6 #[.agg #[.string t.1.1, .int .i64 t.1.2, .slice a (lenF t.2) c], .slice pa pn pc, .agg #[.string u.1.1, .int .i64 u.1.2, .slice ua (lenF u.2) uc]] w fun e w' => e = .returned (.bool true) ∧ Below w.heap.size w w' := by
  obtain ⟨i0, hi, hz0, hz1, hz2⟩ := info_parts Try.info3
  have hmax : maxLen = 9223372036854775807 := rfl
  have HT : Hid (TmAt w t.1 a c t.2) := hT
  have HU : Hid (TmAt w u.1 ua uc u.2) := hU
  have HP : Hid (IntsAt w pa pn ps) := hP
  have HL : Hid (pn = ps.length) := hP.len
  have P0 : Hid (Pair w t.1 a (lenF t.2) c u.1 ua (lenF u.2) uc ((w.alloc (.cells #[.string t.1.1, .int .i64 t.1.2, .slice a (lenF t.2) c] 26)).alloc (.cells #[.string u.1.1, .int .i64 u.1.2, .slice ua (lenF u.2) uc] 26))) := Pair.new _ _ _ _ _ _ _ _ _
  clear hT hU hP
  go_enter Try.func6, Try.ntmps6
  go_wp2_with fail
  refine (head_any _).mono ?_
  rintro e w1 ⟨rfl, hb⟩
  have P1 : Hid (Pair w t.1 a (lenF t.2) c u.1 ua (lenF u.2) uc w1) := P0.out.below hb
  clear hb P0
  have x0 := P1.out.l.c0; have x1 := P1.out.l.c1; have x2 := P1.out.l.c2
  go_wp2_with fail
  refine (lent_any t.1 t.2 a c w1 (HT.out.below P1.out.low)).mono ?_
  rintro e w2 ⟨a', c', rfl, ho2, hb⟩
  obtain ⟨W2, hW2⟩ : ∃ W2, w2.alloc (.cells #[.string t.1.1, .int .i64 t.1.2, .slice a' (lenF t.2) c'] 26) = W2 := ⟨_, rfl⟩
  have hb2 : Below w1.heap.size w1 W2 := by rw [← hW2]; exact hb.alloc hb.size _
  have P2 : Hid (Pair w t.1 a (lenF t.2) c u.1 ua (lenF u.2) uc W2) := P1.out.below hb2
  have L2 : Hid (LentIn W2 w2.heap.size t.1 a' c' t.2) := by
    show LentIn _ _ _ _ _ _
    rw [← hW2]
    exact ⟨(ho2.below ((Below.refl _ _).alloc (Nat.le_refl _) _)).mono (fun _ _ _ => trivial), TBox.new _ _ _ _ _⟩
  have hB9 : Hid (Below W2.heap.size W2 (W2.alloc (.cells #[] 3))) := (Below.refl _ _).alloc (Nat.le_refl _) _
  have hone : Hid (∀ u ∈ [Value.int .i64 77], u.oneCell' = true) := by intro u hu; simp at hu; subst hu; rfl
  clear hb hb2 ho2 P1 x0 x1 x2
  go_upto_region 3 with (rw [hW2])
  go_cut [9] (fun v wc => ∃ g cap, v = .slice (some ⟨g, 0, none⟩) pn cap ∧ pn + 1 ≤ cap ∧ cap ≤ maxLen ∧ Ground w t u a ua c uc w2.heap.size a' c' g pn ps wc)
  case first =>
    clear hW2
    rcases pa with _ | ad
    · have hp0 : pn = 0 := by have := hnil rfl; omega
      subst hp0
      obtain rfl := hnil rfl
      have n2 : Hid (∀ (i : Nat) (u : Value), [Value.int .i64 77][i]? = some u → ((W2.alloc (.cells #[] 3)).alloc (.cells #[.int .i64 77] 3)).cell? ((⟨W2.heap.size + 1, 0, none⟩ : Addr).add i) = some u) := by
        have h := World.news_of_block (heap_alloc_new (W2.alloc (.cells #[] 3)) (.cells #[.int .i64 77] 3))
        rw [World.size_alloc] at h; exact h
      go_wp2_with (at_builtin; first | (refine wpList_append_own_none rfl (.tmp 26) (.tmp 27) 40 rfl W2.heap.size 3 i0 1 Try.underlying40 hi _ 0 [] rfl (own_empty3 W2) rfl ?_) | (refine wpList_append_own _ rfl (.tmp 28) (.tmp 29) 40 rfl W2.heap.size 3 i0 (.int .i64 0) 1 8 Try.underlying40 hi hz0 hz1 hz2 rfl (by decide) _ 0 [] rfl ((own_empty3 W2).alloc _) ⟨W2.heap.size + 1, 0, none⟩ 1 1 [.int .i64 77] rfl rfl n2.out hone.out (by decide) (by decide) (by rw [World.size_alloc, World.size_alloc]; omega) ?_; intro v2 w4 hown2 hgrow2 _; obtain ⟨g, cap, rfl⟩ := ownsRow_succ hown2; obtain ⟨hc1, hc2⟩ := owns_cap hown2; have HO2 : Hid (w4.ownsRow W2.heap.size 3 1 (.slice (some ⟨g, 0, none⟩) 1 cap) 1 [Value.int .i64 77]) := hown2; have B2 : Hid (Below W2.heap.size W2 w4) := (hB9.out.alloc (by rw [World.size_alloc]; omega) _).grown hgrow2 (by rw [World.size_alloc, World.size_alloc]; omega) (fun k e => by cases e; exact Nat.le_refl _); clear hown2 hgrow2))
      go_meet
      have hG := ground_of (W := w4) (ps := ps) (n := 0) HL.out P2.out L2.out B2.out (by
        have : ps = [] := List.length_eq_zero_iff.1 HL.out.symm
        subst this
        exact owns_at HO2.out)
      exact ⟨g, cap, rfl, by omega, hc2, hG⟩
    · have l1 : Hid ((ps.map encInt).length = pn * 1) := by show _ = _; rw [List.length_map, HL.out, Nat.mul_one]
      have n1 : Hid (∀ j u, (ps.map encInt)[j]? = some u → (W2.alloc (.cells #[] 3)).cell? (ad.add j) = some u) := ints_news ((HP.out.below P2.out.low).below hB9.out)
      go_wp2_with (at_builtin; first | (refine wpList_append_own _ rfl (.tmp 26) (.tmp 27) 40 rfl W2.heap.size 3 i0 (.int .i64 0) 1 8 Try.underlying40 hi hz0 hz1 hz2 rfl (by decide) _ 0 [] rfl (own_empty3 W2) ad pn _ (ps.map encInt) rfl l1.out n1.out (int_one _) (by omega) (by omega) (by rw [World.size_alloc]; omega) ?_; intro v1 w3 hown1 hgrow1 _; have HO1 : Hid (w3.ownsRow W2.heap.size 3 1 v1 (0 + pn) ([] ++ ps.map encInt)) := hown1; have B1 : Hid (Below W2.heap.size W2 w3) := hB9.out.grown hgrow1 (by rw [World.size_alloc]; omega) (fun k e => by cases e; exact Nat.le_refl _); clear hown1 hgrow1) | (refine wpList_append_own _ rfl (.tmp 28) (.tmp 29) 40 rfl W2.heap.size 3 i0 (.int .i64 0) 1 8 Try.underlying40 hi hz0 hz1 hz2 rfl (by decide) v1 (0 + pn) _ rfl (HO1.out.alloc _) ⟨w3.heap.size, 0, none⟩ 1 1 [.int .i64 77] rfl rfl (World.news_of_block (heap_alloc_new w3 (.cells #[.int .i64 77] 3))) hone.out (by omega) (by omega) (by rw [World.size_alloc]; exact Nat.le_succ_of_le B1.out.size) ?_; intro v2 w4 hown2 hgrow2 _; obtain ⟨g, cap, rfl⟩ := ownsRow_succ hown2; obtain ⟨hc1, hc2⟩ := owns_cap hown2; have HO2 : Hid (w4.ownsRow W2.heap.size 3 1 (.slice (some ⟨g, 0, none⟩) (0 + pn + 1) cap) (0 + pn + 1) (([] ++ ps.map encInt) ++ [Value.int .i64 77])) := hown2; have B2 : Hid (Below W2.heap.size W2 w4) := (B1.out.alloc B1.out.size _).grown hgrow2 (by rw [World.size_alloc]; exact Nat.le_succ_of_le B1.out.size) (fun k e => (owns_cells HO1.out e).1); clear hown2 hgrow2))
      go_meet
      have hG := ground_of (W := w4) (ps := ps) (n := pn) HL.out P2.out L2.out B2.out (by simpa using owns_at HO2.out)
      exact ⟨g, cap, rfl, by omega, hc2, hG⟩
  case rest =>
    obtain ⟨g, cap, rfl, hc1, hc2, hG⟩ := hcut
    have HG : Hid (Ground w t u a ua c uc w2.heap.size a' c' g pn ps wc) := hG
    clear hG hW2 P2 L2 hB9 hone
    obtain ⟨xa, hxa⟩ : ∃ xa, ansT (subT ps t) = xa := ⟨_, rfl⟩
    obtain ⟨ea, hea⟩ : ∃ ea, ansE (subT ps t) = ea := ⟨_, rfl⟩
    obtain ⟨xb, hxb⟩ : ∃ xb, ansT (putT u ps t) = xb := ⟨_, rfl⟩
    obtain ⟨eb, heb⟩ : ∃ eb, ansE (putT u ps t) = eb := ⟨_, rfl⟩
    have HXA : Hid (ansT (subT ps t) = xa) := hxa
    have HEA : Hid (ansE (subT ps t) = ea) := hea
    have HXB : Hid (ansT (putT u ps t) = xb) := hxb
    have HEB : Hid (ansE (putT u ps t) = eb) := heb
    clear hxa hea hxb heb
    -- At
    have hC := at_any ps t a' c' (some ⟨g, 0, none⟩) pn cap wc HG.out.lent.own.tm HG.out.own (by omega)
    unfold ansV at hC
    rw [HXA.out, HEA.out] at hC
    have x0 := HG.out.lent.box.c0; have x1 := HG.out.lent.box.c1; have x2 := HG.out.lent.box.c2
    go_wp2_with fail
    refine hC.mono ?_
    rintro e w4 ⟨a4, c4, rfl, hS4, hb⟩
    obtain ⟨W4, hW4⟩ : ∃ W4, w4.alloc (.cells #[.string xa.1.1, .int .i64 xa.1.2, .slice a4 (lenF xa.2) c4] 26) = W4 := ⟨_, rfl⟩
    have B4 : Hid (Below wc.heap.size wc W4) := by show Below _ _ _; rw [← hW4]; exact hb.alloc hb.size _
    have A4 : Hid (Told W4 (fun k => wc.heap.size ≤ k ∧ k < w4.heap.size) w4.heap.size xa a4 c4) := by
      show Told _ _ _ _ _ _
      rw [← hW4]
      exact ⟨hS4.within.below ((Below.refl _ _).alloc (Nat.le_refl _) _), TBox.new _ _ _ _ _⟩
    have G4 : Hid (Ground w t u a ua c uc w2.heap.size a' c' g pn ps W4) := HG.out.below B4.out
    have zc : wc.heap.size ≤ w4.heap.size := hb.size
    have z4 : W4.heap.size = w4.heap.size + 1 := by rw [← hW4, World.size_alloc]
    clear hC hb hS4 x0 x1 x2
    -- Put
    have hC := put_any ps t u a' ua c' uc (some ⟨g, 0, none⟩) pn cap W4 G4.out.lent.own.tm (HU.out.below G4.out.pair.low) G4.out.own (by omega)
    unfold ansV at hC
    rw [HXB.out, HEB.out] at hC
    have x0 := G4.out.lent.box.c0; have x1 := G4.out.lent.box.c1; have x2 := G4.out.lent.box.c2
    have y0 := G4.out.pair.r.c0; have y1 := G4.out.pair.r.c1; have y2 := G4.out.pair.r.c2
    go_wp2_with (rw [hW4])
    clear hW4
    refine hC.mono ?_
    rintro e w5 ⟨a5, c5, rfl, hS5, hb⟩
    obtain ⟨W5, hW5⟩ : ∃ W5, w5.alloc (.cells #[.string xb.1.1, .int .i64 xb.1.2, .slice a5 (lenF xb.2) c5] 26) = W5 := ⟨_, rfl⟩
    have hb5 : Below W4.heap.size W4 W5 := by rw [← hW5]; exact hb.alloc hb.size _
    have B5 : Hid (Below wc.heap.size wc W5) := B4.out.trans (hb5.mono B4.out.size)
    have A5 : Hid (Told W5 (fun k => wc.heap.size ≤ k ∧ k < w4.heap.size) w4.heap.size xa a4 c4) := A4.out.below hb5
    have Q5 : Hid (Told W5 (fun k => W4.heap.size ≤ k ∧ k < w5.heap.size) w5.heap.size xb a5 c5) := by
      show Told _ _ _ _ _ _
      rw [← hW5]
      exact ⟨hS5.within.below ((Below.refl _ _).alloc (Nat.le_refl _) _), TBox.new _ _ _ _ _⟩
    have G5 : Hid (Ground w t u a ua c uc w2.heap.size a' c' g pn ps W5) := HG.out.below B5.out
    have z5 : W4.heap.size ≤ w5.heap.size := hb.size
    clear hC hb hb5 hS5 x0 x1 x2 y0 y1 y2 G4 B4 A4
    -- the document's At
    have hC := rat_any ps t a c pa pn pc W5 (HT.out.below G5.out.pair.low) (HP.out.below G5.out.pair.low) (by omega)
    unfold ansV at hC
    rw [HXA.out, HEA.out] at hC
    have x0 := G5.out.pair.l.c0; have x1 := G5.out.pair.l.c1; have x2 := G5.out.pair.l.c2
    go_wp2_with (rw [hW5])
    clear hW5
    refine hC.mono ?_
    rintro e w6 ⟨a6, c6, rfl, hS6, hb⟩
    obtain ⟨W6, hW6⟩ : ∃ W6, w6.alloc (.cells #[.string xa.1.1, .int .i64 xa.1.2, .slice a6 (lenF xa.2) c6] 26) = W6 := ⟨_, rfl⟩
    have hb6 : Below W5.heap.size W5 W6 := by rw [← hW6]; exact hb.alloc hb.size _
    have B6 : Hid (Below wc.heap.size wc W6) := B5.out.trans (hb6.mono B5.out.size)
    have A6 : Hid (Told W6 (fun k => wc.heap.size ≤ k ∧ k < w4.heap.size) w4.heap.size xa a4 c4) := A5.out.below hb6
    have Q6 : Hid (Told W6 (fun k => W4.heap.size ≤ k ∧ k < w5.heap.size) w5.heap.size xb a5 c5) := Q5.out.below hb6
    have R6 : Hid (Said W6 w6.heap.size xa a6 c6) := by
      show Said _ _ _ _ _
      rw [← hW6]
      exact ⟨hS6.below ((Below.refl _ _).alloc (Nat.le_refl _) _), TBox.new _ _ _ _ _⟩
    have G6 : Hid (Ground w t u a ua c uc w2.heap.size a' c' g pn ps W6) := HG.out.below B6.out
    clear hC hb hb6 hS6 x0 x1 x2 G5 B5 A5 Q5
    -- the document's Put
    have hC := rput_all ps t u a ua c uc pa pn pc W6 (HT.out.below G6.out.pair.low) (HU.out.below G6.out.pair.low) (HP.out.below G6.out.pair.low) hpc (by omega)
    unfold ansV at hC
    rw [HXB.out, HEB.out] at hC
    have x0 := G6.out.pair.l.c0; have x1 := G6.out.pair.l.c1; have x2 := G6.out.pair.l.c2
    have y0 := G6.out.pair.r.c0; have y1 := G6.out.pair.r.c1; have y2 := G6.out.pair.r.c2
    go_wp2_with (rw [hW6])
    clear hW6
    refine hC.mono ?_
    rintro e w7 ⟨a7, c7, rfl, hS7, hb⟩
    obtain ⟨W7, hW7⟩ : ∃ W7, w7.alloc (.cells #[.string xb.1.1, .int .i64 xb.1.2, .slice a7 (lenF xb.2) c7] 26) = W7 := ⟨_, rfl⟩
    have hb7 : Below W6.heap.size W6 W7 := by rw [← hW7]; exact hb.alloc hb.size _
    have B7 : Hid (Below wc.heap.size wc W7) := B6.out.trans (hb7.mono B6.out.size)
    have A7 : Hid (Told W7 (fun k => wc.heap.size ≤ k ∧ k < w4.heap.size) w4.heap.size xa a4 c4) := A6.out.below hb7
    have Q7 : Hid (Told W7 (fun k => W4.heap.size ≤ k ∧ k < w5.heap.size) w5.heap.size xb a5 c5) := Q6.out.below hb7
    have R7 : Hid (Said W7 w6.heap.size xa a6 c6) := R6.out.below hb7
    have S7 : Hid (Said W7 w7.heap.size xb a7 c7) := by
      show Said _ _ _ _ _
      rw [← hW7]
      exact ⟨hS7.tm.below ((Below.refl _ _).alloc (Nat.le_refl _) _), TBox.new _ _ _ _ _⟩
    clear hC hb hb7 hS7 x0 x1 x2 y0 y1 y2 G6 B6 A6 Q6 R6
    -- Exact
    have x0 := A7.out.box.c0; have x1 := A7.out.box.c1; have x2 := A7.out.box.c2
    have y0 := R7.out.box.c0; have y1 := R7.out.box.c1; have y2 := R7.out.box.c2
    go_wp2_with (rw [hW7])
    clear hW7
    refine (exact_any xa.1 xa.2 a4 a6 c4 c6 W7 A7.out.sep.tm R7.out.at_).mono ?_
    rintro e w8 ⟨rfl, hb⟩
    have B8 : Hid (Below wc.heap.size wc w8) := B7.out.trans (hb.mono B7.out.size)
    have A8 : Hid (Told w8 (fun k => wc.heap.size ≤ k ∧ k < w4.heap.size) w4.heap.size xa a4 c4) := A7.out.below hb
    have Q8 : Hid (Told w8 (fun k => W4.heap.size ≤ k ∧ k < w5.heap.size) w5.heap.size xb a5 c5) := Q7.out.below hb
    have S8 : Hid (Said w8 w7.heap.size xb a7 c7) := S7.out.below hb
    clear hb x0 x1 x2 y0 y1 y2 B7 A7 Q7 R7 S7
    have x0 := Q8.out.box.c0; have x1 := Q8.out.box.c1; have x2 := Q8.out.box.c2
    have y0 := S8.out.box.c0; have y1 := S8.out.box.c1; have y2 := S8.out.box.c2
    go_wp2_with fail
    refine (exact_any xb.1 xb.2 a5 a7 c5 c7 w8 Q8.out.sep.tm S8.out.at_).mono ?_
    rintro e w9 ⟨rfl, hb⟩
    have B9 : Hid (Below wc.heap.size wc w9) := B8.out.trans (hb.mono B8.out.size)
    have A9 : Hid (Told w9 (fun k => wc.heap.size ≤ k ∧ k < w4.heap.size) w4.heap.size xa a4 c4) := A8.out.below hb
    have Q9 : Hid (Told w9 (fun k => W4.heap.size ≤ k ∧ k < w5.heap.size) w5.heap.size xb a5 c5) := Q8.out.below hb
    clear hb x0 x1 x2 y0 y1 y2 B8 A8 Q8 S8
    -- Spoil, Kept
    have x0 := A9.out.box.c0; have x1 := A9.out.box.c1; have x2 := A9.out.box.c2
    go_wp2_with fail
    refine (spoil_any _ xa.1 xa.2 a4 c4 w9 A9.out.sep).mono ?_
    rintro e w10 ⟨⟨v, rfl⟩, hf⟩
    have B10 : Hid (Below wc.heap.size wc w10) := B9.out.trans (hf.below (fun k hk => hk.1) B9.out.size)
    have Q10 : Hid (Told w10 (fun k => W4.heap.size ≤ k ∧ k < w5.heap.size) w5.heap.size xb a5 c5) := ⟨Q9.out.sep.keep (fun k hk hlt => hf.same k hlt (fun h => by omega)), (hf.same _ Q9.out.box.lt (fun h => by omega)).trans Q9.out.box⟩
    have G10 : Hid (Ground w t u a ua c uc w2.heap.size a' c' g pn ps w10) := HG.out.below B10.out
    clear hf x0 x1 x2 B9 A9 Q9
    have x0 := G10.out.lent.box.c0; have x1 := G10.out.lent.box.c1; have x2 := G10.out.lent.box.c2
    have y0 := G10.out.pair.l.c0; have y1 := G10.out.pair.l.c1; have y2 := G10.out.pair.l.c2
    go_wp2_with fail
    refine (kept_any _ t.1 t.2 a' a c' c w10 G10.out.lent.own (HT.out.below G10.out.pair.low)).mono ?_
    rintro e w11 ⟨rfl, hb⟩
    have B11 : Hid (Below wc.heap.size wc w11) := B10.out.trans (hb.mono B10.out.size)
    have Q11 : Hid (Told w11 (fun k => W4.heap.size ≤ k ∧ k < w5.heap.size) w5.heap.size xb a5 c5) := Q10.out.below hb
    clear hb x0 x1 x2 y0 y1 y2 G10 B10 Q10
    have x0 := Q11.out.box.c0; have x1 := Q11.out.box.c1; have x2 := Q11.out.box.c2
    go_wp2_with fail
    refine (spoil_any _ xb.1 xb.2 a5 c5 w11 Q11.out.sep).mono ?_
    rintro e w12 ⟨⟨v2, rfl⟩, hf⟩
    have B12 : Hid (Below wc.heap.size wc w12) := B11.out.trans (hf.below (fun k hk => by omega) B11.out.size)
    have G12 : Hid (Ground w t u a ua c uc w2.heap.size a' c' g pn ps w12) := HG.out.below B12.out
    clear hf x0 x1 x2 B11 Q11
    have x0 := G12.out.lent.box.c0; have x1 := G12.out.lent.box.c1; have x2 := G12.out.lent.box.c2
    have y0 := G12.out.pair.l.c0; have y1 := G12.out.pair.l.c1; have y2 := G12.out.pair.l.c2
    go_wp2_with fail
    refine (kept_any _ t.1 t.2 a' a c' c w12 G12.out.lent.own (HT.out.below G12.out.pair.low)).mono ?_
    rintro e w13 ⟨rfl, hb⟩
    have B13 : Hid (Below wc.heap.size wc w13) := B12.out.trans (hb.mono B12.out.size)
    clear hb x0 x1 x2 y0 y1 y2 G12 B12
    go_wp2
    go_loopw [20, 22] (fun ok i wr => ∃ k : Nat, k ≤ pn ∧ ok = .bool true ∧ i = .int .i64 k ∧ Below wc.heap.size wc wr) (fun _ i _ => pn - (intOf i).toNat)
    case atStart => exact ⟨0, Nat.zero_le _, rfl, rfl, B13.out⟩
    case round =>
      obtain ⟨k, hk, rfl, rfl, hb⟩ := hrel
      have HB : Hid (Below wc.heap.size wc wr) := hb
      have GR : Hid (Ground w t u a ua c uc w2.heap.size a' c' g pn ps wr) := HG.out.below hb
      have HPR : Hid (IntsAt wr pa pn ps) := HP.out.below GR.out.pair.low
      clear hb
      by_cases hlt : k < pn
      · obtain ⟨b1, o1, e1, q0⟩ := GR.out.own.cells k (by have := HL.out; omega)
        cases e1
        obtain ⟨b2, o2, rfl, r0⟩ := HPR.out.cells k (by have := HL.out; omega)
        obtain ⟨iv, hiv⟩ : ∃ iv, ps[k]'(by have := HL.out; omega) = iv := ⟨_, rfl⟩
        rw [hiv, Nat.zero_add] at q0
        rw [hiv] at r0
        have hne := later_some wr
        have d0 := later_cell q0
        have e0 := later_cell r0
        have hj0 : (0 : Int) ≤ (k : Int) := by omega
        have hjn : (k : Int) < (pn : Int) := by omega
        clear q0 r0 hiv
        go_wp2_with fail
        refine wp_region_later (by kernel_rfl) (by kernel_rfl) ?_
        repeat (go_big_quiet_step (fail))
        refine wpQuiet_nil ?_
        intro _ hw'
        obtain ⟨b3, hw''⟩ := hw'
        subst hw''
        have HB3 : Hid (Below wc.heap.size wc b3.now) := HB.out.trans (b3.below.mono HB.out.size)
        clear d0 e0 hne
        go_wp2
        go_roundw
        case rel => exact ⟨k + 1, by omega, rfl, by go_num, HB3.out⟩
        case measure => simp [intOf]; omega
      · have m0 := GR.out.mark
        have h1 : (pn : Int) + 1 ≤ (cap : Int) := by omega
        have TB : Hid (Below w.heap.size w wr) := GR.out.pair.low
        go_wp2
        go_ret
        exact ⟨rfl, TB.out⟩
end Go.Proofs.Ytmhdapgiealmfaa
