/- For every signature SigStays returns true: what is right stays right without its last symbol, and plain; each symbol is found by its name, at its place; plain ones have no units; no condition. -/
import Derived.Test.YtpngaeabkmbefaaHead
import Derived.Test.YtpngaeabkmbefaaNewPlain
import Derived.Test.YtpngaeabkmbefaaUnits
import Derived.Test.YtpngaeabkmbefaaOpenSig
namespace Go.Proofs.Ytpngaeabkmbefaa
open Go.ChangeShapes Go.WideShapes Go.ChangeAt Go.RowKit

theorem errAt_take {l : List Sym} {k j : Nat} (hj : j < k) (hk : k ≤ l.length) : errAt (l.take k) j = errAt l j := by
  unfold errAt
  rw [dif_pos (by simp; omega), dif_pos (by omega), List.getElem_take, List.take_take, Nat.min_eq_left (by omega)]
theorem take_right {l : List Sym} (h : checkE l = 0) (k : Nat) (hk : k ≤ l.length) : checkE (l.take k) = 0 := by
  obtain ⟨h16, hno⟩ := check_ok h
  exact checkE_miss (by simp; omega) (firstErr_miss fun j hj => by
    have hj' : j < k := by simp at hj; omega
    rw [errAt_take hj' hk]; exact hno j (by omega))
theorem place_fits {l : List Sym} (_ : checkE l ≠ 0) : 0 ≤ checkP l ∧ (checkP l < l.length ∨ checkP l = 0) := by
  unfold checkP
  split
  · omega
  · cases hf : firstErr l with
    | none => simp
    | some k =>
      have := (firstErr_some hf).1
      simp only
      omega
theorem plain_name (x : Sym) : (plainS x).name = x.name := by unfold plainS; split <;> rfl
theorem plain_kind (x : Sym) : (plainS x).kind ≠ 3 := by
  unfold plainS
  split
  · show (2 : Int) ≠ 3; decide
  · assumption
theorem plain_find (l : List Sym) (nm : ByteArray) : findB (l.map plainS) nm = findB l nm := by
  unfold findB findL
  rw [List.findIdx?_map]
  congr 2
  funext x
  simp [Function.comp, plain_name]
theorem symErr_parts {l : List Sym} {x : Sym} (h : symErr l x = 0) : findB l x.name = false ∧ nameB x.name = true ∧ kindB x = true ∧ arityB x = true ∧ unitB l x = true := by
  unfold symErr at h
  split at h
  · omega
  · rename_i h1
    split at h
    · omega
    · rename_i h2
      split at h
      · omega
      · rename_i h3
        split at h
        · omega
        · rename_i h4
          refine ⟨?_, ?_, by simpa using h2, by simpa using h3, by simpa using h4⟩
          · cases hf : findB l x.name
            · rfl
            · exact absurd (Or.inl hf) h1
          · cases hf : nameB x.name
            · exact absurd (Or.inr hf) h1
            · rfl
theorem plain_sym {l m : List Sym} {x : Sym} (h : symErr l x = 0) (hm : m = l.map plainS) : symErr m (plainS x) = 0 := by
  obtain ⟨h1, h2, h3, h4, h5⟩ := symErr_parts h
  subst hm
  have hk : kindB (plainS x) = true := by
    unfold plainS
    split
    · rfl
    · exact h3
  have ha : arityB (plainS x) = true := by
    by_cases h3k : x.kind = 3
    · rw [plainS_is h3k]
      unfold arityB at *
      rw [if_neg (by omega)] at h4
      rw [if_neg (by show (2 : Int) ≠ 1; decide)]
      exact h4
    · rw [plainS_not h3k]; exact h4
  have hu : unitB (l.map plainS) (plainS x) = true := by
    unfold unitB
    rw [if_neg (plain_kind x)]
    by_cases h3k : x.kind = 3
    · rw [plainS_is h3k]; show emptyB ⟨#[]⟩ = true; decide +kernel
    · rw [plainS_not h3k]
      unfold unitB at h5
      rw [if_neg h3k] at h5
      exact h5
  unfold symErr
  rw [if_neg (by rw [plain_name, plain_find, h1, h2]; simp), if_neg (by rw [hk]; simp), if_neg (by rw [ha]; simp), if_neg (by rw [hu]; simp)]
theorem plain_right {l : List Sym} (h : checkE l = 0) : checkE (l.map plainS) = 0 := by
  obtain ⟨h16, hno⟩ := check_ok h
  refine checkE_miss (by simpa using h16) (firstErr_miss fun j hj => ?_)
  have hj' : j < l.length := by simpa using hj
  have h0 := hno j hj'
  unfold errAt at *
  rw [dif_pos hj'] at h0
  rw [dif_pos hj, List.getElem_map]
  exact plain_sym h0 (by rw [List.map_take])
theorem plain_units (l : List Sym) (n : Nat) : refTo (l.map plainS) n = [] := by
  unfold refTo
  rw [List.filter_eq_nil_iff.2]
  · rfl
  · intro i _
    have : isU (l.map plainS) i = false := isU_miss fun k hk => by
      rw [unit_not hk (by rw [List.getElem_map]; exact plain_kind _)]
      simp
    simp [this]

set_option maxHeartbeats 1000000 in
theorem sigStays_walk (a : Option Addr) (n cap : Nat) (hcap : n ≤ cap) (l : List Sym) (w : World) (h : SigAt w a n l) (hr : n * 48 ≤ 140737488351232) :
    Calls Try.prog 7 #[.slice a n cap] w fun e w' => e = .returned (.bool true) ∧ Below w.heap.size w w' := by
  have HS : Hid (SigAt w a n l) := h
  have hlen : Hid (n = l.length) := h.len
  clear h
  go_enter Try.func7, Try.ntmps7
  go_wp2_with fail
  refine (head_any _).mono ?_
  rintro e w1 ⟨rfl, hb1⟩
  have HB1 : Hid (Below w.heap.size w w1) := hb1
  clear hb1
  go_wp2_with fail
  refine (scheck_any a n cap hcap l _ (HS.out.below HB1.out)).mono ?_
  rintro e w2 ⟨he, hb2⟩
  unfold CheckRet at he
  subst he
  have HB2 : Hid (Below w.heap.size w w2) := HB1.out.trans (hb2.mono HB1.out.size)
  clear hb2
  cases h1 : (checkE l != 0)
  · have h1' : Hid (checkE l = 0) := by show _ = _; simpa using h1
    go_wp2
    go_loopw [6, 7, 8, 9, 10] (fun i _ _ _ _ w' => ∃ k : Nat, k ≤ n ∧ i = .int .i64 k ∧ Below w.heap.size w w') (fun i _ _ _ _ _ => n - (intOf i).toNat)
    case atStart => exact ⟨0, Nat.zero_le _, rfl, HB2.out⟩
    case round =>
      obtain ⟨k, hk, rfl, hb⟩ := hrel
      have HB : Hid (Below w.heap.size w wr) := hb
      clear hb
      by_cases hlt : k < n
      · have hlk : k < l.length := by have := hlen.out; omega
        obtain ⟨b, off, rfl, hsym⟩ := HS.out.cells k hlk
        have s0 := (hsym.below HB.out).name
        have hfo : Hid (findL l l[k].name = some k) := by
          have := find_own (m := []) hlk ((check_ok h1'.out).2 k hlk)
          rw [List.append_nil] at this
          exact this
        have htk : Hid (checkE (l.take k) = 0) := take_right h1'.out k (by omega)
        have hsk : Hid (SymAt w b (off + k * 4) l[k]) := hsym
        clear hsym
        have hk0 : (0 : Int) ≤ (k : Int) := by omega
        have hkc : (k : Int) ≤ (cap : Int) := by omega
        clear s0
        go_wp2_with fail
        refine (scheck_any _ k cap (by omega) (l.take k) _ ((HS.out.take k (by omega)).below HB.out)).mono ?_
        rintro e w3 ⟨he, hb3⟩
        unfold CheckRet at he
        rw [htk.out] at he
        subst he
        have HB3 : Hid (Below w.heap.size w w3) := HB.out.trans (hb3.mono HB.out.size)
        have s0 := (hsk.out.below HB3.out).name
        clear hb3
        go_wp2_with fail
        refine (sfind_any _ _ _ l _ _ (HS.out.below HB3.out)).mono ?_
        rintro e w4 ⟨he, hb4⟩
        unfold FindRet at he
        rw [findI_some hfo.out, findB_some hfo.out] at he
        subst he
        have HB4 : Hid (Below w.heap.size w w4) := HB3.out.trans (hb4.mono HB3.out.size)
        clear hb4 s0
        go_wp2
        go_roundw
        case rel => exact ⟨k + 1, by omega, by go_num, HB4.out⟩
        case measure => simp [intOf]; omega
      · go_wp2_with fail
        refine (splain_any _ _ _ l _ (HS.out.below HB.out) hr).mono ?_
        rintro e w3 ⟨g, rfl, hg, hs3, _, hb3⟩
        have HP3 : Hid (SigAt w3 (some ⟨g, 0, none⟩) n (l.map plainS)) := hs3
        have HB3 : Hid (Below w.heap.size w w3) := HB.out.trans (hb3.mono HB.out.size)
        clear hs3 hb3
        go_wp2_with fail
        refine (scheck_any _ _ _ (Nat.le_refl _) (l.map plainS) _ HP3.out).mono ?_
        rintro e w4 ⟨he, hb4⟩
        unfold CheckRet at he
        rw [plain_right h1'.out] at he
        subst he
        have HP4 : Hid (SigAt w4 (some ⟨g, 0, none⟩) n (l.map plainS)) := HP3.out.below hb4
        have HB4 : Hid (Below w.heap.size w w4) := HB3.out.trans (hb4.mono HB3.out.size)
        clear hb4
        go_wp2_with fail
        refine (sunits_any _ _ _ (l.map plainS) _ HP4.out hr).mono ?_
        rintro e w5 ⟨a5, m5, cap5, rfl, hi5, hb5⟩
        have hm5 : m5 = 0 := by have := hi5.len; rw [plain_units] at this; exact this
        subst hm5
        have HB5 : Hid (Below w.heap.size w w5) := HB4.out.trans (hb5.mono HB4.out.size)
        clear hi5 hb5
        go_wp2
        go_ret
        exact ⟨rfl, HB5.out⟩
  · obtain ⟨p1, p2⟩ := place_fits (l := l) (by simpa using h1)
    by_cases p3 : checkP l < (n : Int)
    · go_wp2
      go_ret
      exact ⟨rfl, HB2.out⟩
    · have p4 : (checkP l == 0) = true := by have := hlen.out; simp; omega
      go_wp2
      go_ret
      exact ⟨rfl, HB2.out⟩

set_option maxRecDepth 100000 in
theorem sigStays_lifted (os : Os) (started : os.Started) (H : Type) (enc : TypeId × Value → H) :
    ReturnsInHanded {} Try.checked os 7 .any (Rows.sigStaysSpec.pre6 enc Try.prog Try.f7 Rows.sigStaysRow.domain false) (Rows.sigStaysSpec.post enc Try.prog Try.f7 false true false false) := by
  refine returnsInHanded_of_change_sized (C := Try.checked) own started (by kernel_rfl) Try.func7
    (ChangeSpec.witness6 (enc := enc) (C := Try.checked) false ⟨#[], #[.slice none 0 0], []⟩ 8 (by kernel_rfl) (by kernel_rfl) (by kernel_rfl) (by kernel_rfl)) ?_
  intro W base args ds gs before hval0 hW hcnd hsz0 _
  have hval : ∀ (j : Nat) t v, Try.f7.params[j]? = some t → args[j]? = some v → Value.okWide Try.prog W .any base t v := hval0
  have hsz : (DataW.weightsEach Try.prog (Try.f7.params.toList ++ Rows.sigStaysSpec.plain.varTypes Try.prog) (ds ++ gs)).all (· ≤ reachBytes) = true := hsz0
  have hW' := hW
  obtain ⟨p, q, hA0, hV, rfl, hfz, hnd⟩ := hW
  have hA : DataW.TrodAll enc Try.prog W 0 (fun _ => true) true Try.f7.params.toList args.toList ds p := hA0
  rw [Try.params7] at hA hval hsz
  obtain ⟨v0, vs0, d0, ds0, p0, q0, hargs, rfl, rfl, h0, r0⟩ := trodAll_cons hA
  obtain ⟨rfl, rfl, rfl⟩ := trodAll_nil r0
  obtain rfl : args = #[v0] := by cases args; simp_all
  obtain ⟨rfl, rfl⟩ := trodVars_none hV
  obtain ⟨a0, len0, cap0, rfl⟩ := okWide_slice Try.underlying27 (hval 0 27 v0 rfl rfl)
  have k0 := h0
  have lt0 : ∀ x ∈ p0, x.block < W.heap.size := by obtain ⟨m, hm⟩ := k0; exact DataW.trod_lt m _ _ _ hm
  obtain ⟨l, hl, hcap, ho⟩ := sig_open h0
  have hr := sig_sized hsz (j := 0) rfl rfl ho
  clear hA0 hval0 hsz0
  refine (sigStays_walk a0 len0 cap0 hcap l W hl hr).mono fun e W' ⟨he, bel⟩ => ?_
  subst he
  exact ⟨_, rfl, _, _, _, [], _, [], hW', trodAll_mk1 (shut_bool Try.underlying4 _), (trodAll_cons_mk (Below.trod laidOut (by kernel_rfl) (of_decide_eq_true (by kernel_rfl)) k0 bel lt0) trodAll_mk0), rfl, bel.frame _, fun h => by cases h⟩

theorem sigStays_holds : Rows.SigStaysSaid :=
  OpenClaim.holds_of_wide 7 Try.f7 rfl rfl rfl rfl rfl rfl rfl ⟨rfl, rfl, rfl, rfl, rfl⟩ rfl rfl rfl rfl rfl (by kernel_rfl) Try.func7 (by kernel_rfl)
    (of_decide_eq_true (by kernel_rfl)) (by unfold Func.isWrapper; first | (rw [if_pos (by decide +kernel)]; kernel_rfl) | (rw [if_neg (by decide +kernel)]; exact ⟨rfl, rfl⟩))
    (fun os started H enc _ => sigStays_lifted os started H enc)
end Go.Proofs.Ytpngaeabkmbefaa
