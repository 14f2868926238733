/- Two slices of the same words are the same; the document's Begin. -/
import Derived.Test.YtfkfehkbdmemnaaRList
namespace Go.Proofs.Ytfkfehkbdmemnaa
open Go.RowKit

set_option maxHeartbeats 2000000 in
theorem same_any (a b : Option Addr) (n ca cb : Nat) (ws : List Wd) (w : World) (ha : WdsAt w a n ws) (hb : WdsAt w b n ws) :
    Calls Try.prog 13 #[.slice a n ca, .slice b n cb] w fun e W' => e = .returned (.bool true) ∧ Below w.heap.size w W' := by
  have HA : Hid (WdsAt w a n ws) := ha
  have HBB : Hid (WdsAt w b n ws) := hb
  have hm := ha.small
  unfold maxLen at hm
  clear ha hb
  go_enter Try.func13, Try.ntmps13
  go_wp2
  go_loopw [5] (fun i wr => ∃ k : Nat, k ≤ n ∧ i = .int .i64 k ∧ Below w.heap.size w wr) (fun i _ => n - (intOf i).toNat)
  case atStart => exact ⟨0, Nat.zero_le _, rfl, Below.refl _ _⟩
  case round =>
    obtain ⟨k, hk, rfl, hb⟩ := hrel
    by_cases hlt : k < n
    · have hlk : k < ws.length := by have := HA.out.len; omega
      obtain ⟨g, off, rfl, hg⟩ := HA.out.cells k hlk
      obtain ⟨g', off', rfl, hg'⟩ := HBB.out.cells k hlk
      have hx := hg.block (hb.block g hg.lt)
      have hy := hg'.block (hb.block g' hg'.lt)
      have c0 := hx.kind
      have c1 := hx.text
      have c2 := hx.place
      have d0 := hy.kind
      have d1 := hy.text
      have d2 := hy.place
      have HB : Hid (Below w.heap.size w wr) := hb
      clear hb hx hy hg hg'
      have hk0 : (0 : Int) ≤ (k : Int) := by omega
      have hkn : (k : Int) < (n : Int) := by omega
      obtain ⟨x, hx⟩ : ∃ x, x = ws[k] := ⟨_, rfl⟩
      rw [← hx] at c0 c1 c2 d0 d1 d2
      clear hx
      go_wp2
      have hne := later_some wr
      have e0 := later_cell c0
      have e1 := later_cell c1
      have e2 := later_cell c2
      have f0 := later_cell d0
      have f1 := later_cell d1
      have f2 := later_cell d2
      refine wp_region_later (by kernel_rfl) (by kernel_rfl) ?_
      repeat (go_big_quiet_step (fail))
      refine wpQuiet_nil ?_
      intro _ hw'
      obtain ⟨b2, hw''⟩ := hw'
      subst hw''
      have HB2 : Hid (Below w.heap.size w b2.now) := HB.out.trans (b2.below.mono HB.out.size)
      clear e0 e1 e2 f0 f1 f2 c0 c1 c2 d0 d1 d2
      go_wp2
      go_roundw
      case rel => exact ⟨k + 1, by omega, by go_num, HB2.out⟩
      case measure => simp [intOf]; omega
    · go_wp2
      go_ret
      exact ⟨rfl, hb⟩

set_option maxHeartbeats 2000000 in
theorem rbegin_any (s : ByteArray) (w : World) (hs : s.size ≤ 4398046511104) :
    Calls Try.prog 14 #[.string s] w fun e W' => ∃ v, e = .returned v ∧ W'.ownsRow w.heap.size 26 3 v (wordsFrom s 0).length (wdCells (wordsFrom s 0)) ∧ Below w.heap.size w W' := by
  have hs' : Hid (s.size ≤ maxLen) := by show s.size ≤ maxLen; unfold maxLen; omega
  obtain ⟨i0, hi, hz0, hz1, hz2⟩ := info_parts Try.info26
  go_enter Try.func14, Try.ntmps14
  go_wp2
  go_loopw [3, 4] (fun v i wr => ∃ (pre : List Wd) (k : Nat), i = .int .i64 k ∧ k ≤ s.size ∧ wordsFrom s 0 = pre ++ wordsFrom s k ∧ wr.ownsRow w.heap.size 26 3 v pre.length (wdCells pre) ∧ Below w.heap.size w wr) (fun _ i _ => s.size - (intOf i).toNat)
  case atStart => exact ⟨[], 0, rfl, Nat.zero_le _, rfl, World.ownsRow_nil _ _ _ _, Below.refl _ _⟩
  case round =>
    obtain ⟨pre, k, rfl, hk, hw, hown, hb⟩ := hrel
    have HN := fun w => rnext_any s k w hs'.out hk
    have HB : Hid (Below w.heap.size w wr) := hb
    clear hb
    cases hst : nxStop (nx s k)
    · obtain ⟨hwd, herr⟩ := nx_word hst
      have hgo := words_go hk hst
      have hto := hwd.le
      have hgt := hwd.gt
      have hfr := hwd.from'
      have hk0 := hwd.kind0
      clear hwd hst
      rcases hnx : nx s k with ⟨⟨kd, tx, pl⟩, to, er⟩
      rw [hnx] at herr hgo hto hgt hfr hk0 HN
      simp only at herr hgo hto hgt hfr hk0
      subst herr
      have HN' : Hid (∀ w, Calls Try.prog 10 #[.string s, .int .i64 k] w fun e w' => e = .returned (.tuple #[.agg #[.int .i64 kd, .string tx, .int .i64 pl], .int .i64 to, .int .i64 0]) ∧ Below w.heap.size w w') := HN
      clear HN hnx
      have hkb : (kd == 0) = false := by simpa using hk0
      have hkt : k < to := by omega
      have hWK : wordsFrom s 0 = (pre ++ [⟨kd, tx, pl⟩]) ++ wordsFrom s to := by
        rw [hw, hgo]; simp
      have hplen : pre.length < s.size := by
        have := words_small s
        rw [hWK] at this
        simp at this; omega
      have HWK : Hid (wordsFrom s 0 = (pre ++ [⟨kd, tx, pl⟩]) ++ wordsFrom s to) := hWK
      clear hw hgo hWK hk0 hfr
      go_wp2_with fail
      refine (HN'.out _).mono ?_
      rintro e w1 ⟨rfl, hb1⟩
      have T1 : Hid (Below w.heap.size w w1) := HB.out.trans (hb1.mono HB.out.size)
      have hown1 := owns_below hown hb1
      clear hb1 hown
      go_wp2_with (at_builtin; refine wpList_append_lies _ rfl (.tmp 23) (.tmp 25) 31 rfl w.heap.size 26 i0 _ 3 32 Try.underlying31 hi hz0 hz1 hz2 rfl (by decide) u3 pre.length (wdCells pre) rfl ((hown1.alloc _).alloc _) ⟨w1.heap.size + 1, 0, none⟩ 1 1 (Wd.cells ⟨kd, tx, pl⟩) rfl rfl (wd_news _ _ (by simp) ⟨kd, tx, pl⟩) (wd_one _) (by decide) (by unfold maxLen; omega) (by omega) (by have := T1.out.size; simp; omega) (w1.heap.size + 2) (by simp) ?_; intro g1 cap1 w2 hown2 hgrow2 hat2 hlt2)
      have HB2 := ((T1.out.alloc T1.out.size _).alloc (by have := T1.out.size; simp; omega) _).grown hgrow2 (by have := T1.out.size; simp; omega) (own_base hown1)
      go_roundw
      case rel => exact ⟨pre ++ [⟨kd, tx, pl⟩], to, rfl, hto, HWK.out, by rw [wdCells_snoc, List.length_append]; exact hown2, HB2⟩
      case measure => simp [intOf]; omega
    · have hwd := nx_stop hst
      have hgo := words_stop hk hst
      rcases hnx : nx s k with ⟨wd, to, er⟩
      rw [hnx] at hwd HN
      simp only at hwd
      subst hwd
      have HN' : Hid (∀ w, Calls Try.prog 10 #[.string s, .int .i64 k] w fun e w' => e = .returned (.tuple #[.agg #[.int .i64 0, .string ⟨#[]⟩, .int .i64 0], .int .i64 to, .int .i64 er]) ∧ Below w.heap.size w w') := HN
      clear HN hnx hst
      have hE : Hid (wordsFrom s 0 = pre) := by
        show _ = _; rw [hw, hgo]; simp
      clear hw hgo
      cases her : (er != 0)
      all_goals
        go_wp2_with fail
        refine (HN'.out _).mono ?_
        rintro e w1 ⟨rfl, hb1⟩
        have T1 : Hid (Below w.heap.size w (w1.alloc (.cells #[.int .i64 0, .string ⟨#[]⟩, .int .i64 0] 26))) := (HB.out.trans (hb1.mono HB.out.size)).alloc (by have := HB.out.size; have := hb1.size; omega) _
        have hown1 : Hid (_) := (owns_below hown hb1).alloc (.cells #[.int .i64 0, .string ⟨#[]⟩, .int .i64 0] 26)
        clear hb1 hown
        go_wp2
        go_ret
        exact ⟨u3, rfl, by rw [hE.out]; exact hown1.out, T1.out⟩

end Go.Proofs.Ytfkfehkbdmemnaa
