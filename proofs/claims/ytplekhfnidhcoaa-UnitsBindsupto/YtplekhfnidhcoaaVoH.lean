/- The document's Check and Is of binds to constants. -/
import Derived.Test.YtplekhfnidhcoaaRIs
import Derived.Test.YtplekhfnidhcoaaUnD
import Derived.Test.YtplekhfnidhcoaaUnP
namespace Go.Proofs.Ytplekhfnidhcoaa
open Go.RowKit Go.Shelf Go.Deep

/-- A constant. -/
def kT (s : Int) : Tn := ((⟨#[]⟩, s), .nil)
theorem leaf_at (w : World) (s : Int) : TmAt w (kT s).1 none 0 (kT s).2 := by
  refine ⟨⟨?_, ?_, ?_, ?_⟩, .inl rfl⟩
  · exact Nat.zero_le _
  all_goals simp [kT, lenF]
/-- What makes binds to constants a substitution. -/
structure GoodB (l : List Sym) (xs : List Bl) : Prop where
  var : ∀ x ∈ xs, varB x.1 = true ∧ x.1.size ≤ maxLen
  term : ∀ x ∈ xs, rightB l (kT x.2) = true ∧ exN (canonT (sgOf l) (kT x.2)).1 (kT x.2).1 (canonT (sgOf l) (kT x.2)).2 (kT x.2).2 = true
  rise : ∀ i (h : i + 1 < xs.length), (xs[i]).1.toList < (xs[i + 1]).1.toList
theorem var_some {s : ByteArray} (h : varB s = true) : s.toList ≠ [] := fun e => by
  have h0 : s.size = 0 := by
    have : s.data.toList = [] := by rw [← ByteArray.toList_eq]; exact e
    have h2 : s.data.size = 0 := by rw [← Array.length_toList, this]; rfl
    exact h2
  unfold varB at h
  rw [Bool.and_eq_true] at h
  have := h.1
  unfold fitsB at this
  simp [h0] at this
set_option maxRecDepth 100000 in
set_option maxHeartbeats 1000000 in
theorem over_leaf (s : Int) (w : World) : Calls Try.prog 57 #[.agg #[.string ⟨#[]⟩, .int .i64 s, .slice none 0 0], .int .i64 400] w fun e w' => e = .returned (.int .i64 399) ∧ Below w.heap.size w w' := by
  have bx := Box.new w 26 #[.string ⟨#[]⟩, .int .i64 s, .slice none 0 0]
  have t2 : _ = some _ := bx.c 2
  have HB := hid (alloc_below0 w (.cells #[.string ⟨#[]⟩, .int .i64 s, .slice none 0 0] 26))
  clear bx
  go_enter Try.func57, Try.ntmps57
  go_wp2_with fail
  go_loopw [1, 5] (fun mv iv wr => mv = .int .i64 399 ∧ iv = .int .i64 0 ∧ wr = w.alloc (.cells #[.string ⟨#[]⟩, .int .i64 s, .slice none 0 0] 26)) (fun _ _ _ => 0)
  case atStart => exact ⟨rfl, rfl, rfl⟩
  case round =>
    obtain ⟨rfl, rfl, rfl⟩ := hrel
    go_wp2
    go_ret
    exact ⟨rfl, HB.out⟩
set_option maxRecDepth 100000 in
set_option maxHeartbeats 1000000 in
theorem Over_leaf (s : Int) (w : World) : Calls Try.prog 49 #[.agg #[.string ⟨#[]⟩, .int .i64 s, .slice none 0 0], .int .i64 400] w fun e w' => e = .returned (.bool false) ∧ Below w.heap.size w w' := by
  have bx := Box.new w 26 #[.string ⟨#[]⟩, .int .i64 s, .slice none 0 0]
  have t0 : _ = some _ := bx.c 0; have t1 : _ = some _ := bx.c 1; have t2 : _ = some _ := bx.c 2
  have HB := hid (alloc_below0 w (.cells #[.string ⟨#[]⟩, .int .i64 s, .slice none 0 0] 26))
  clear bx
  go_enter Try.func49, Try.ntmps49
  go_wp2_with fail
  refine (over_leaf s _).mono ?_
  rintro e w1 ⟨rfl, hb⟩
  have HL := hid (HB.out.trans (hb.mono HB.out.size))
  clear hb t0 t1 t2
  go_wp2
  go_ret
  exact ⟨rfl, HL.out⟩
set_option maxRecDepth 100000 in
set_option maxHeartbeats 8000000 in
theorem rchkb_any (p : Option Addr) (n c : Nat) (l : List Sym) (q : Option Addr) (d : Nat) (xs : List Bl) (w : World) (hS : SigAt w p n l) (hB : BlAt w q xs) (hG : GoodB l xs) :
    Calls Try.prog 38 #[.slice p n c, .slice q xs.length d] w fun e w' => e = .returned (.tuple #[.int .i64 0, .int .i64 0]) ∧ Below w.heap.size w w' := by
  obtain ⟨m, hm⟩ : ∃ m, xs.length = m := ⟨_, rfl⟩
  have HS := hid hS; have HB := hid hB; have HG := hid hG; have HM := hid hm
  have hsm : m ≤ 9223372036854775807 := by have := hB.small; unfold maxLen at this; omega
  rw [hm]
  clear hS hB hG hm
  go_enter Try.func38, Try.ntmps38
  go_wp2_with fail
  go_loopw [6, 7, 8, 9, 10] (fun iv _ _ _ _ wr => ∃ i : Nat, i ≤ m ∧ iv = .int .i64 i ∧ Below w.heap.size w wr) (fun iv _ _ _ _ _ => m - (intOf iv).toNat)
  case atStart => exact ⟨0, Nat.zero_le _, rfl, Below.refl _ _⟩
  case round =>
    obtain ⟨i, hi, rfl, hlow⟩ := hrel
    have HLW := hid hlow
    clear hlow
    by_cases hlt : i < m
    · have hil : i < xs.length := by rw [HM.out]; exact hlt
      obtain ⟨b, o, rfl, hlf⟩ := HB.out.cells i hil
      have hgv := HG.out.var _ (List.getElem_mem hil)
      have hgt := HG.out.term _ (List.getElem_mem hil)
      have HPREV : Hid (∀ i', i' + 1 = i → ∃ s, (∀ W, Below w.heap.size w W → W.cell? ⟨b, o + i' * 4, none⟩ = some (.string s)) ∧ s.toList < (xs[i]'hil).1.toList) := hid (fun i' hi' => by
        subst hi'
        obtain ⟨b', o', he, hlf'⟩ := HB.out.cells i' (by omega)
        cases he
        exact ⟨_, fun W hW => below_cell hW _ _ hlf'.var, HG.out.rise i' hil⟩)
      obtain ⟨⟨sx, z⟩, hx⟩ : ∃ x, xs[i]'hil = x := ⟨_, rfl⟩
      rw [hx] at hlf hgv hgt HPREV
      dsimp only at hgv hgt HPREV
      have HLF := hid hlf; have HGV := hid hgv; have HGT := hid hgt
      have hiz : (i : Int) < (m : Int) := by omega
      have v0 := below_cell HLW.out _ _ hlf.var
      dsimp only at v0
      clear hlf hgv hgt hx hil
      have HVC : Hid (Calls Try.prog 48 #[.string sx] wr fun e w' => e = .returned (.bool true) ∧ w' = wr) := hid (by have := rvar_any sx wr HGV.out.2; rw [HGV.out.1] at this; exact this)
      go_wp2_with fail
      refine HVC.out.mono ?_
      rintro e w1 ⟨rfl, rfl⟩
      have v1 := below_cell HLW.out _ _ HLF.out.name
      have hne := later_some w1
      have d0 := later_cell (below_cell HLW.out _ _ HLF.out.var)
      dsimp only at d0
      have d1 := later_cell v1
      have hsx : ¬ (([] : List UInt8) = sx.toList) := fun e => var_some HGV.out.1 e.symm
      have hsb : (([] : List UInt8) == sx.toList) = false := beq_eq_false_iff_ne.2 hsx
      have hse : ((⟨#[]⟩ : ByteArray).toList) = [] := by decide +kernel
      have hsc : ((⟨#[]⟩ : ByteArray).toList == sx.toList) = false := by rw [hse]; exact hsb
      clear hse
      clear HVC v0 v1
      have HPOST : Hid (∀ W, Below w.heap.size w W → Calls Try.prog 49 #[.agg #[.string ⟨#[]⟩, .int .i64 z, .slice none 0 0], .int .i64 400] W fun e w' => e = .returned (.bool false) ∧ Below W.heap.size W w') := hid (fun W _ => Over_leaf z W)
      have HRT : Hid (∀ W, Below w.heap.size w W → Calls Try.prog 19 #[.slice p n c, .agg #[.string ⟨#[]⟩, .int .i64 z, .slice none 0 0]] W fun e w' => e = .returned (.bool true) ∧ Below W.heap.size W w') := hid (fun W hW => by have := rright_any p n c l (kT z) none 0 W (HS.out.below hW) (leaf_at W z); rw [HGT.out.1] at this; exact this)
      have HIS : Hid (∀ W, Below w.heap.size w W → Calls Try.prog 50 #[.slice p n c, .agg #[.string ⟨#[]⟩, .int .i64 z, .slice none 0 0]] W fun e w' => e = .returned (.bool true) ∧ Below W.heap.size W w') := hid (fun W hW => by have := is_any p n c l (kT z) none 0 W (HS.out.below hW) (leaf_at W z) (Nat.zero_le _); rw [HGT.out.2] at this; exact this)
      rcases Nat.eq_zero_or_pos i with hi0 | hi0
      · subst hi0
        simp only [Nat.zero_mul, Nat.add_zero] at d0 d1
        go_wp2_with fail
        refine wp_region_later (by kernel_rfl) (by kernel_rfl) ?_
        repeat (go_big_quiet_step (fail))
        refine wpQuiet_nil ?_
        intro _ hw'
        obtain ⟨b3, hw''⟩ := hw'
        subst hw''
        have HL3 := hid (HLW.out.trans (b3.below.mono HLW.out.size))
        clear d0 d1
        have e1 := below_cell HL3.out _ _ HLF.out.name
        have e2 := below_cell HL3.out _ _ HLF.out.sym
        have e3 := below_cell HL3.out _ _ HLF.out.list
        try dsimp only at e2
        go_wp2_with fail
        refine (HPOST.out _ HL3.out).mono ?_
        rintro e w4 ⟨rfl, hb4⟩
        have HL4 := hid (HL3.out.trans (hb4.mono HL3.out.size))
        clear hb4 e1 e2 e3
        have e1 := below_cell HL4.out _ _ HLF.out.name
        have e2 := below_cell HL4.out _ _ HLF.out.sym
        have e3 := below_cell HL4.out _ _ HLF.out.list
        try dsimp only at e2
        go_wp2_with fail
        refine (HRT.out _ HL4.out).mono ?_
        rintro e w5 ⟨rfl, hb5⟩
        have HL5 := hid (HL4.out.trans (hb5.mono HL4.out.size))
        clear hb5 e1 e2 e3
        have e1 := below_cell HL5.out _ _ HLF.out.name
        have e2 := below_cell HL5.out _ _ HLF.out.sym
        have e3 := below_cell HL5.out _ _ HLF.out.list
        try dsimp only at e2
        go_wp2_with fail
        refine (HIS.out _ HL5.out).mono ?_
        rintro e w6 ⟨rfl, hb6⟩
        have HL6 := hid (HL5.out.trans (hb6.mono HL5.out.size))
        clear hb6 e1 e2 e3
        go_wp2
        go_roundw
        case rel => exact ⟨0 + 1, by omega, by go_num, HL6.out⟩
        case measure => simp [intOf]; omega
      · obtain ⟨i', rfl⟩ : ∃ i', i = i' + 1 := ⟨i - 1, by omega⟩
        obtain ⟨s, hsc, hsl⟩ := HPREV.out i' rfl
        have d4 := later_cell (hsc _ HLW.out)
        have hbl : Op.bytesLess sx.toList s.toList = false := by rw [bytesLess_eq]; exact decide_eq_false (fun h => List.lt_irrefl _ (List.lt_trans h hsl))
        have hbe : (sx.toList == s.toList) = false := beq_eq_false_iff_ne.2 (fun e => by rw [e] at hsl; exact List.lt_irrefl _ hsl)
        have hz1 : (0 : Int) < (i' : Int) + 1 := by omega
        have hz2 : (i' : Int) < (m : Int) := by omega
        clear hsc hsl
        go_wp2_with fail
        refine wp_region_later (by kernel_rfl) (by kernel_rfl) ?_
        repeat (go_big_quiet_step (fail))
        refine wpQuiet_nil ?_
        intro _ hw'
        obtain ⟨b3, hw''⟩ := hw'
        subst hw''
        have HL3 := hid (HLW.out.trans (b3.below.mono HLW.out.size))
        clear d0 d1 d4 hbl hbe
        have e1 := below_cell HL3.out _ _ HLF.out.name
        have e2 := below_cell HL3.out _ _ HLF.out.sym
        have e3 := below_cell HL3.out _ _ HLF.out.list
        try dsimp only at e2
        go_wp2_with fail
        refine (HPOST.out _ HL3.out).mono ?_
        rintro e w4 ⟨rfl, hb4⟩
        have HL4 := hid (HL3.out.trans (hb4.mono HL3.out.size))
        clear hb4 e1 e2 e3
        have e1 := below_cell HL4.out _ _ HLF.out.name
        have e2 := below_cell HL4.out _ _ HLF.out.sym
        have e3 := below_cell HL4.out _ _ HLF.out.list
        try dsimp only at e2
        go_wp2_with fail
        refine (HRT.out _ HL4.out).mono ?_
        rintro e w5 ⟨rfl, hb5⟩
        have HL5 := hid (HL4.out.trans (hb5.mono HL4.out.size))
        clear hb5 e1 e2 e3
        have e1 := below_cell HL5.out _ _ HLF.out.name
        have e2 := below_cell HL5.out _ _ HLF.out.sym
        have e3 := below_cell HL5.out _ _ HLF.out.list
        try dsimp only at e2
        go_wp2_with fail
        refine (HIS.out _ HL5.out).mono ?_
        rintro e w6 ⟨rfl, hb6⟩
        have HL6 := hid (HL5.out.trans (hb6.mono HL5.out.size))
        clear hb6 e1 e2 e3
        go_wp2
        go_roundw
        case rel => exact ⟨i' + 1 + 1, by omega, by go_num, HL6.out⟩
        case measure => simp [intOf]; omega
    · have hiz : (m : Int) ≤ (i : Int) := by omega
      go_wp2
      refine bodyPost_ret (results_tmp2 rfl _ _ _) rfl ?_
      exact ⟨rfl, HLW.out⟩
end Go.Proofs.Ytplekhfnidhcoaa
