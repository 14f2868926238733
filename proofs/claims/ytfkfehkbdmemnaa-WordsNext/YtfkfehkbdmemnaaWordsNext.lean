/- For every text and every list of places WordsNext returns true: Next of package words answers at each place what the document says; no condition. -/
import Derived.Test.YtfkfehkbdmemnaaWOpen
namespace Go.Proofs.Ytfkfehkbdmemnaa
open Go.ChangeShapes Go.WideShapes Go.ChangeAt Go.RowKit

set_option maxHeartbeats 2000000 in
theorem wordsNext_walk (s : ByteArray) (a : Option Addr) (n cap : Nat) (zs : List Int) (w : World) (hs : s.size ≤ maxLen) (h : NumsAt w a n zs) :
    Calls Try.prog 3 #[.string s, .slice a n cap] w fun e w' => e = .returned (.bool true) ∧ Below w.heap.size w w' := by
  have HS : Hid (NumsAt w a n zs) := h
  have hm := h.small
  unfold maxLen at hm
  clear h
  go_enter Try.func3, Try.ntmps3
  go_wp2_with fail
  refine (head_any _).mono ?_
  rintro e w1 ⟨rfl, hb1⟩
  have HB1 : Hid (Below w.heap.size w w1) := hb1
  clear hb1
  go_wp2
  go_loopw [6] (fun i w' => ∃ k : Nat, k ≤ n ∧ i = .int .i64 k ∧ Below w.heap.size w w') (fun i _ => n - (intOf i).toNat)
  case atStart => exact ⟨0, Nat.zero_le _, rfl, HB1.out⟩
  case round =>
    obtain ⟨k, hk, rfl, hb⟩ := hrel
    by_cases hlt : k < n
    · have hlk : k < zs.length := by have := HS.out.len; omega
      obtain ⟨b, off, rfl, hc⟩ := HS.out.cells k hlk
      have hbl : b < w.heap.size := World.block_lt_of_cell? w _ hc
      have hcr : wr.cell? ⟨b, off + k, none⟩ = some (.int .i64 zs[k]) := by
        rw [hb.cell (p := ⟨b, off + k, none⟩) hbl]; exact hc
      clear hc
      have hblr : b < wr.heap.size := by have := hb.size; omega
      have HB : Hid (Below w.heap.size w wr) := hb
      clear hb
      have hk0 : (0 : Int) ≤ (k : Int) := by omega
      have hkn : (k : Int) < (n : Int) := by omega
      have H1 := fun w => nextI_any s zs[k] w hs
      have H2 := fun w => rnextI_any s zs[k] w hs
      rcases hnx : nxI s zs[k] with ⟨⟨kd, tx, pl⟩, to, er⟩
      rw [hnx] at H1 H2
      have H1' : Hid (∀ w, Calls Try.prog 9 #[.string s, .int .i64 zs[k]] w fun e w' => e = .returned (.tuple #[.agg #[.int .i64 kd, .string tx, .int .i64 pl], .int .i64 to, .int .i64 er]) ∧ Below w.heap.size w w') := H1
      have H2' : Hid (∀ w, Calls Try.prog 10 #[.string s, .int .i64 zs[k]] w fun e w' => e = .returned (.tuple #[.agg #[.int .i64 kd, .string tx, .int .i64 pl], .int .i64 to, .int .i64 er]) ∧ Below w.heap.size w w') := H2
      clear H1 H2 hnx
      go_wp2_with fail
      refine (H1'.out _).mono ?_
      rintro e w2 ⟨rfl, hb2⟩
      have T2 : Hid (Below w.heap.size w (w2.alloc (.cells #[.int .i64 kd, .string tx, .int .i64 pl] 26))) := (HB.out.trans (hb2.mono HB.out.size)).alloc (by have := HB.out.size; have := hb2.size; omega) _
      have hcr2 : (w2.alloc (.cells #[.int .i64 kd, .string tx, .int .i64 pl] 26)).cell? ⟨b, off + k, none⟩ = some (.int .i64 zs[k]) := by
        rw [(((Below.refl _ wr).trans hb2).alloc hb2.size _).cell (p := ⟨b, off + k, none⟩) hblr]; exact hcr
      have X2 : Hid (WdBox (w2.alloc (.cells #[.int .i64 kd, .string tx, .int .i64 pl] 26)) w2.heap.size ⟨kd, tx, pl⟩) := WdBox.new w2 ⟨kd, tx, pl⟩
      have hw2 : Hid (w2.heap.size < (w2.alloc (.cells #[.int .i64 kd, .string tx, .int .i64 pl] 26)).heap.size) := by show _ < _; simp
      clear hb2 hcr
      go_wp2_with fail
      refine (H2'.out _).mono ?_
      rintro e w3 ⟨rfl, hb3⟩
      have X3 := X2.out.below hb3
      have T3 : Hid (Below w.heap.size w (w3.alloc (.cells #[.int .i64 kd, .string tx, .int .i64 pl] 26))) := (T2.out.trans (hb3.mono T2.out.size)).alloc (by have := T2.out.size; have := hb3.size; omega) _
      have X4 := wdBox_alloc X3 (.cells #[.int .i64 kd, .string tx, .int .i64 pl] 26)
      have Y4 := WdBox.new w3 ⟨kd, tx, pl⟩
      have c0 := X4.c0
      have c1 := X4.c1
      have c2 := X4.c2
      have d0 := Y4.c0
      have d1 := Y4.c1
      have d2 := Y4.c2
      clear X3 X4 Y4 hb3 hcr2
      go_wp2
      go_roundw
      case rel => exact ⟨k + 1, by omega, by go_num, T3.out⟩
      case measure => simp [intOf]; omega
    · go_wp2
      go_ret
      exact ⟨rfl, hb⟩

set_option maxRecDepth 100000 in
theorem wordsNext_lifted (os : Os) (started : os.Started) (H : Type) (enc : TypeId × Value → H) :
    ReturnsInHanded {} Try.checked os 3 .any (Rows.wordsNextSpec.pre6 enc Try.prog Try.f3 Rows.wordsNextRow.domain false) (Rows.wordsNextSpec.post enc Try.prog Try.f3 false true false false) := by
  refine returnsInHanded_of_change (C := Try.checked) own started (by kernel_rfl) Try.func3
    (ChangeSpec.witness6 (enc := enc) (C := Try.checked) false ⟨#[], #[.string ⟨#[]⟩, .slice none 0 0], []⟩ 8 (by kernel_rfl) (by kernel_rfl) (by kernel_rfl) (by kernel_rfl)) ?_
  intro W base args ds gs before hval0 hW hcnd _
  have hval : ∀ (j : Nat) t v, Try.f3.params[j]? = some t → args[j]? = some v → Value.okWide Try.prog W .any base t v := hval0
  have hW' := hW
  obtain ⟨p, q, hA0, hV, rfl, hfz, hnd⟩ := hW
  have hA : DataW.TrodAll enc Try.prog W 0 (fun _ => true) true Try.f3.params.toList args.toList ds p := hA0
  rw [Try.params3] at hA hval
  obtain ⟨v0, vs0, d0, ds0, p0, q0, hargs, rfl, rfl, h0, r0⟩ := trodAll_cons hA
  obtain ⟨v1, vs1, d1, ds1, p1, q1, rfl, rfl, rfl, h1, r1⟩ := trodAll_cons r0
  obtain ⟨rfl, rfl, rfl⟩ := trodAll_nil r1
  obtain rfl : args = #[v0, v1] := by cases args; simp_all
  obtain ⟨rfl, rfl⟩ := trodVars_none hV
  have k0 := h0
  obtain ⟨s, rfl, hd0, hp0, hs⟩ := Go.ChangeMaps.open_string Try.underlying9 (hval 0 9 v0 rfl rfl) h0
  obtain ⟨a1, len1, cap1, rfl⟩ := okWide_slice Try.underlying22 (hval 1 22 v1 rfl rfl)
  have lt0 : ∀ x ∈ p0, x.block < W.heap.size := by obtain ⟨m, hm⟩ := k0; exact DataW.trod_lt m _ _ _ hm
  have k1 := h1
  have lt1 : ∀ x ∈ p1, x.block < W.heap.size := by obtain ⟨m, hm⟩ := k1; exact DataW.trod_lt m _ _ _ hm
  obtain ⟨zs, hzs⟩ := nums_open h1
  clear hA0 hval0
  refine (wordsNext_walk s a1 len1 cap1 zs W hs hzs).mono fun e W' ⟨he, bel⟩ => ?_
  subst he
  exact ⟨_, rfl, _, _, _, [], _, [], hW', trodAll_mk1 (shut_bool Try.underlying4 _), (trodAll_cons_mk (Below.trod laidOut (by kernel_rfl) (of_decide_eq_true (by kernel_rfl)) k0 bel lt0) (trodAll_cons_mk (Below.trod laidOut (by kernel_rfl) (of_decide_eq_true (by kernel_rfl)) k1 bel lt1) trodAll_mk0)), rfl, bel.frame _, fun h => by cases h⟩

theorem wordsNext_holds : Rows.WordsNextSaid :=
  OpenClaim.holds_of_wide 3 Try.f3 rfl rfl rfl rfl rfl rfl rfl ⟨rfl, rfl, rfl, rfl, rfl⟩ rfl rfl rfl rfl rfl (by kernel_rfl) Try.func3 (by kernel_rfl)
    (of_decide_eq_true (by kernel_rfl)) (by unfold Func.isWrapper; first | (rw [if_pos (by decide +kernel)]; kernel_rfl) | (rw [if_neg (by decide +kernel)]; exact ⟨rfl, rfl⟩))
    (fun os started H enc _ => wordsNext_lifted os started H enc)
end Go.Proofs.Ytfkfehkbdmemnaa
