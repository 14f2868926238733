/- LinsolveLeast: the walk. -/
import Derived.Test.YtbdkogccjnmfoabLkE
import Derived.Test.YtbdkogccjnmfoabLiR
import Derived.Test.YtbdkogccjnmfoabLiY
import Derived.Deep.RegionHeld3
namespace Go.Proofs.Ytbdkogccjnmfoab
open Go.RowKit Go.Shelf

theorem ahd_cmp : ∀ (l m : List Int), l.length = m.length → cmpL l m < 0 → ahdV l m = true := by
  intro l
  induction l with
  | nil =>
    intro m h hc
    cases m with
    | nil => exact absurd hc (by decide)
    | cons => simp at h
  | cons x l ih =>
    intro m h hc
    cases m with
    | nil => simp at h
    | cons y m =>
      rw [ahdV]
      by_cases hxy : x = y
      · subst hxy
        rw [if_pos rfl]
        refine ih m (by simpa using h) ?_
        simpa [cmpL, cmpI] using hc
      · rw [if_neg hxy]
        unfold cmpL cmpI at hc
        by_cases h1 : x < y
        · exact decide_eq_true h1
        · exfalso
          have h2 : y < x := by omega
          simp [h1, h2] at hc
set_option maxRecDepth 100000 in
set_option maxHeartbeats 2000000 in
theorem rises_any (p : Option Addr) (c : Nat) (vs : List Int) (q : Option Addr) (d : Nat) (us : List Int) (w : World) (hK : IntsAt w p vs) (hN : IntsAt w q us) (hle : vs.length = us.length) :
    Calls Try.prog 10 #[.slice p vs.length c, .slice q us.length d] w fun e w' => e = .returned (.bool (ahdV vs us)) ∧ ∃ n, w' = w.drewN n := by
  have HK := hid hK; have HN := hid hN
  have hmax : maxLen = 9223372036854775807 := rfl
  have hs1 := hK.small; have hs2 := hN.small
  obtain ⟨T, hT⟩ : ∃ T, ahdV vs us = T := ⟨_, rfl⟩
  rw [hT]
  have HT := hid hT
  have HLE := hid hle
  clear hK hN hT
  go_enter Try.func10, Try.ntmps10
  go_wp2_with fail
  go_loopw [5] (fun iv wr => ∃ (j : Nat), j ≤ vs.length ∧ iv = .int .i64 j ∧ ahdV (vs.drop j) (us.drop j) = T ∧ ∃ n, wr = w.drewN n) (fun iv _ => vs.length - (intOf iv).toNat)
  case atStart => exact ⟨0, Nat.zero_le _, rfl, by rw [← HT.out]; simp, 0, rfl⟩
  case round =>
    obtain ⟨j, hj, rfl, hf, hwr⟩ := hrel
    rename World => wr
    have HW := hid hwr
    by_cases hlt : j < vs.length
    · have hlt2 : j < us.length := by omega
      obtain ⟨nw, hnw⟩ := hwr
      have HK' := HK.out.drewN nw; have HN' := HN.out.drewN nw
      rw [← hnw] at HK' HN'
      obtain ⟨b, o, rfl, hc⟩ := HK'.cells j hlt
      obtain ⟨b2, o2, rfl, hc2⟩ := HN'.cells j hlt2
      rw [List.drop_eq_getElem_cons hlt, List.drop_eq_getElem_cons hlt2, ahdV] at hf
      obtain ⟨k, hk⟩ : ∃ k, vs[j] = k := ⟨_, rfl⟩
      obtain ⟨n, hn⟩ : ∃ n, us[j] = n := ⟨_, rfl⟩
      rw [hk, hn] at hf
      rw [hk] at hc
      rw [hn] at hc2
      by_cases hkn : k = n
      · rw [if_pos hkn] at hf
        subst hkn
        have hne : (k != k) = false := by simp
        have HF := hid hf
        clear hf hk hn hnw HK' HN' hle
        go_wp2_with fail
        go_big_quiet (fail)
        go_wp2_with fail
        go_roundw
        case rel => exact ⟨j + 1, by omega, by go_num, HF.out, drew_more HW.out _⟩
        case measure => simp [intOf]; omega
      · rw [if_neg hkn] at hf
        have hne : (k != n) = true := by simpa using hkn
        have HF := hid hf
        clear hf hk hn hnw HK' HN' hle hkn
        go_wp2_with fail
        go_big_quiet (fail)
        go_wp2_with fail
        go_big_quiet (fail)
        go_wp2_with fail
        go_ret
        exact ⟨by rw [← HF.out]; rfl, drew_more (drew_more HW.out _) _⟩
    · have e1 : j = vs.length := by omega
      rw [List.drop_eq_nil_of_le (by omega : vs.length ≤ j), ahd_nil] at hf
      have HF := hid hf
      clear hf hwr hle
      go_wp2_with fail
      go_ret
      exact ⟨by rw [← HF.out]; rfl, HW.out⟩
theorem least_facts {a b : List Int} (h0 : chkE a b = 0) {vs : List Vc} (hmin : IsMin (pbOf a b) (vs.map Vc.l)) : (∀ i (hi : i < vs.length), toI vs[i].l ∈ ML a b) ∧ (∀ k i (_ : k < i) (hk : k < vs.length) (hi : i < vs.length), toI vs[k].l ≠ toI vs[i].l) ∧ ∀ i (h1 : i < vs.length) (h2 : i + 1 < vs.length), ahdV (toI vs[i].l) (toI vs[i + 1].l) = true := by
  have hmem : ∀ i (hi : i < vs.length), toI vs[i].l ∈ ML a b := fun i hi => by
    unfold ML
    exact List.mem_map.2 ⟨vs[i].l, hmin.perm.subset (List.mem_map.2 ⟨vs[i], List.getElem_mem hi, rfl⟩), rfl⟩
  have hne : ∀ k i (_ : k < i) (hk : k < vs.length) (hi : i < vs.length), toI vs[k].l ≠ toI vs[i].l := fun k i hki hk hi e => by
    have h1 := List.pairwise_iff_getElem.1 (hmin.nodup h0) k i (by simpa using hk) (by simpa using hi) hki
    rw [List.getElem_map, List.getElem_map] at h1
    exact h1 (toI_inj e)
  refine ⟨hmem, hne, fun i h1 h2 => ?_⟩
  have h3 := List.pairwise_iff_getElem.1 hmin.sort i (i + 1) (by simpa using h1) (by simpa using h2) (Nat.lt_succ_self i)
  rw [List.getElem_map, List.getElem_map] at h3
  have h4 := cmpL_anti (toI vs[i].l) (toI vs[i + 1].l)
  have h5 : cmpL (toI vs[i].l) (toI vs[i + 1].l) ≠ 0 := fun e => hne i (i + 1) (Nat.lt_succ_self i) h1 h2 (cmpL_eq _ _ e)
  exact ahd_cmp _ _ ((ml_sol h0 (hmem i h1)).1.trans (ml_sol h0 (hmem (i + 1) h2)).1.symm) (by omega)
theorem VcAt.bl {w : World} {v : Vc} (h : VcAt w v) : Bl w v.b (toI v.l) ∧ v.l.length ≤ v.c ∧ v.c ≤ maxLen := by
  obtain ⟨cur, h1, h2, h3, h4⟩ := h.blk
  refine ⟨⟨cur, h1, fun i hi => ?_⟩, h2, h4⟩
  obtain ⟨b, o, e1, _, e2⟩ := h.ints.cells i hi
  cases e1
  rw [Nat.zero_add] at e2
  unfold World.cell? at e2
  simpa [h1] using e2
/-- A vector in the row. -/
structure El (W : World) (g : Nat) (i N : Nat) (V : List Int) (B C : Nat) : Prop where
  cell : W.cell? ⟨g, i, none⟩ = some (.slice (some ⟨B, 0, none⟩) N C)
  bl : Bl W B V
  len : V.length = N
  cap : N ≤ C
theorem El.drewN {W : World} {g i N : Nat} {V : List Int} {B C : Nat} (h : El W g i N V B C) (n : Nat) : El (W.drewN n) g i N V B C :=
  ⟨by have := h.cell; simp only [World.cell?, heap_drewN] at this ⊢; exact this, h.bl.same (by rw [heap_drewN]), h.len, h.cap⟩
theorem El.below {W W' : World} {g i N : Nat} {V : List Int} {B C : Nat} (h : El W g i N V B C) (hb : Below W.heap.size W W') : El W' g i N V B C :=
  ⟨below_cell hb _ _ h.cell, h.bl.same (hb.block _ h.bl.lt), h.len, h.cap⟩
theorem row_el {W : World} {base : Nat} {q : Option Addr} {c n N : Nat} {vs : List Vc} (h : XRow W base (.slice q n c) vs) (i : Nat) (hi : i < vs.length) (hN : (toI vs[i].l).length = N) : ∃ g, q = some ⟨g, 0, none⟩ ∧ El W g i N (toI vs[i].l) vs[i].b vs[i].c ∧ vs[i].c ≤ maxLen := by
  obtain ⟨g, h1, _, _, _, h2⟩ := h.cell i hi
  obtain ⟨h3, h4, h5⟩ := (h.vec _ (List.getElem_mem hi)).bl
  rw [toI_len] at hN
  refine ⟨g, h1, ⟨by rw [h2, ← hN], h3, by rw [toI_len]; exact hN, by omega⟩, h5⟩
end Go.Proofs.Ytbdkogccjnmfoab
