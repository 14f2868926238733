/- What the document's List and Begin answer of any text; two lists of the same words are the same. -/
import Derived.Test.YtfkfehkbdmemnaaWOpen
namespace Go.Proofs.Ytfkfehkbdmemnaa
open Go.RowKit

theorem own_base {w : World} {base e size n : Nat} {v : Value} {xs : List Value} (h : w.ownsRow base e size v n xs) : ∀ k, v.ownBlock = some k → base ≤ k := by
  rcases h.2 with ⟨rfl, _⟩ | ⟨g, cap, cur, rfl, hb, _⟩
  · simp [Value.ownBlock]
  · intro k hk
    simp [Value.ownBlock] at hk
    omega
theorem wd_news (w : World) (H : Nat) (hH : w.heap.size = H) (x : Wd) : ∀ j u, x.cells[j]? = some u → (w.alloc (.cells #[.int .i64 x.kind, .string x.text, .int .i64 x.place] 26)).cell? ((⟨H, 0, none⟩ : Addr).add j) = some u := by
  subst hH
  exact World.news_of_block (cs := #[.int .i64 x.kind, .string x.text, .int .i64 x.place]) (t := 26) (fr := (0, 0)) (heap_alloc_new w _)

set_option maxHeartbeats 2000000 in
theorem rlist_any (s : ByteArray) (w : World) (hs : s.size ≤ 4398046511104) :
    Calls Try.prog 12 #[.string s] w fun e W' => ∃ v, e = .returned (.tuple #[v, .int .i64 (errOf s), .int .i64 (lstAt s)]) ∧ W'.ownsRow w.heap.size 26 3 v (lstWords s).length (wdCells (lstWords s)) ∧ Below w.heap.size w W' := by
  have hs' : Hid (s.size ≤ maxLen) := by show s.size ≤ maxLen; unfold maxLen; omega
  obtain ⟨i0, hi, hz0, hz1, hz2⟩ := info_parts Try.info26
  go_enter Try.func12, Try.ntmps12
  go_wp2
  go_loopw [5, 6] (fun v i wr => ∃ (pre : List Wd) (k : Nat), i = .int .i64 k ∧ k ≤ s.size ∧ wordsFrom s 0 = pre ++ wordsFrom s k ∧ (lst s 0).2 = (lst s k).2 ∧ wr.ownsRow w.heap.size 26 3 v pre.length (wdCells pre) ∧ Below w.heap.size w wr) (fun _ i _ => s.size - (intOf i).toNat)
  case atStart => exact ⟨[], 0, rfl, Nat.zero_le _, rfl, rfl, World.ownsRow_nil _ _ _ _, Below.refl _ _⟩
  case round =>
    obtain ⟨pre, k, rfl, hk, hw, hl, hown, hb⟩ := hrel
    have HN := fun w => rnext_any s k w hs'.out hk
    have HB : Hid (Below w.heap.size w wr) := hb
    clear hb
    cases hst : nxStop (nx s k)
    · obtain ⟨hwd, herr⟩ := nx_word hst
      have hgo := lst_go hk hst
      have hto := hwd.le
      have hgt := hwd.gt
      have hfr := hwd.from'
      have hk0 := hwd.kind0
      clear hwd hst
      rcases hnx : nx s k with ⟨⟨kd, tx, pl⟩, to, er⟩
      rw [hnx] at herr hgo hto hgt hfr hk0 HN
      simp only at herr hgo hto hgt hfr hk0
      subst herr
      have HN' : Hid (∀ w, Calls Try.prog 10 #[.string s, .int .i64 k] w fun e w' => e = .returned (.tuple #[.agg #[.int .i64 kd, .string tx, .int .i64 pl], .int .i64 to, .int .i64 0]) ∧ Below w.heap.size w w') := HN
      clear HN hnx
      have hkb : (kd == 0) = false := by simpa using hk0
      have hkt : k < to := by omega
      have hWK : wordsFrom s 0 = (pre ++ [⟨kd, tx, pl⟩]) ++ wordsFrom s to := by
        rw [hw]; unfold wordsFrom; rw [hgo]; simp
      have hLK : Hid ((lst s 0).2 = (lst s to).2) := by show _ = _; rw [hl, hgo]
      have hplen : pre.length < s.size := by
        have := words_small s
        rw [hWK] at this
        simp at this; omega
      have HWK : Hid (wordsFrom s 0 = (pre ++ [⟨kd, tx, pl⟩]) ++ wordsFrom s to) := hWK
      clear hw hl hgo hWK hk0 hfr
      go_wp2_with fail
      refine (HN'.out _).mono ?_
      rintro e w1 ⟨rfl, hb1⟩
      have T1 : Hid (Below w.heap.size w w1) := HB.out.trans (hb1.mono HB.out.size)
      have hown1 := owns_below hown hb1
      clear hb1 hown
      go_wp2_with (at_builtin; refine wpList_append_lies _ rfl (.tmp 25) (.tmp 27) 31 rfl w.heap.size 26 i0 _ 3 32 Try.underlying31 hi hz0 hz1 hz2 rfl (by decide) u5 pre.length (wdCells pre) rfl ((hown1.alloc _).alloc _) ⟨w1.heap.size + 1, 0, none⟩ 1 1 (Wd.cells ⟨kd, tx, pl⟩) rfl rfl (wd_news _ _ (by simp) ⟨kd, tx, pl⟩) (wd_one _) (by decide) (by unfold maxLen; omega) (by omega) (by have := T1.out.size; simp; omega) (w1.heap.size + 2) (by simp) ?_; intro g1 cap1 w2 hown2 hgrow2 hat2 hlt2)
      have HB2 := ((T1.out.alloc T1.out.size _).alloc (by have := T1.out.size; simp; omega) _).grown hgrow2 (by have := T1.out.size; simp; omega) (own_base hown1)
      go_roundw
      case rel => exact ⟨pre ++ [⟨kd, tx, pl⟩], to, rfl, hto, HWK.out, hLK.out, by rw [wdCells_snoc, List.length_append]; exact hown2, HB2⟩
      case measure => simp [intOf]; omega
    · have hwd := nx_stop hst
      have hgo := lst_stop hk hst
      rcases hnx : nx s k with ⟨wd, to, er⟩
      rw [hnx] at hwd hgo HN
      simp only at hwd hgo
      subst hwd
      have HN' : Hid (∀ w, Calls Try.prog 10 #[.string s, .int .i64 k] w fun e w' => e = .returned (.tuple #[.agg #[.int .i64 0, .string ⟨#[]⟩, .int .i64 0], .int .i64 to, .int .i64 er]) ∧ Below w.heap.size w w') := HN
      clear HN hnx hst
      have hE : Hid (errOf s = er ∧ errTo s = to ∧ wordsFrom s 0 = pre) := by
        refine ⟨by unfold errOf; rw [hl, hgo], by unfold errTo; rw [hl, hgo], ?_⟩
        rw [hw]; unfold wordsFrom; rw [hgo]; simp
      clear hw hl hgo
      cases her : (er != 0)
      · have her0 : er = 0 := by simpa using her
        go_wp2_with fail
        refine (HN'.out _).mono ?_
        rintro e w1 ⟨rfl, hb1⟩
        have T1 : Hid (Below w.heap.size w (w1.alloc (.cells #[.int .i64 0, .string ⟨#[]⟩, .int .i64 0] 26))) := (HB.out.trans (hb1.mono HB.out.size)).alloc (by have := HB.out.size; have := hb1.size; omega) _
        have hown1 : Hid (_) := (owns_below hown hb1).alloc (.cells #[.int .i64 0, .string ⟨#[]⟩, .int .i64 0] 26)
        clear hb1 hown
        go_wp2
        refine bodyPost_ret (results_tmp3 rfl _ _ _) rfl ?_
        refine ⟨u5, ?_, ?_, T1.out⟩
        · rw [lstAt, hE.out.1, if_pos her0, her0]; rfl
        · rw [lstWords, hE.out.1, if_pos her0, hE.out.2.2]; exact hown1.out
      · have her0 : er ≠ 0 := by simpa using her
        go_wp2_with fail
        refine (HN'.out _).mono ?_
        rintro e w1 ⟨rfl, hb1⟩
        have T1 : Hid (Below w.heap.size w (w1.alloc (.cells #[.int .i64 0, .string ⟨#[]⟩, .int .i64 0] 26))) := (HB.out.trans (hb1.mono HB.out.size)).alloc (by have := HB.out.size; have := hb1.size; omega) _
        clear hb1 hown
        go_wp2
        refine bodyPost_ret (results_tmp3 rfl _ _ _) rfl ?_
        refine ⟨.slice none 0 0, ?_, ?_, T1.out⟩
        · rw [lstAt, hE.out.1, if_neg her0, hE.out.2.1]; rfl
        · rw [lstWords, hE.out.1, if_neg her0]; exact World.ownsRow_nil _ _ _ _

end Go.Proofs.Ytfkfehkbdmemnaa
