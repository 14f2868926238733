import Derived.Deep.RegionLaw
import Derived.Deep.DeepCutAuto
import Derived.BigQuiet
import Derived.Test.YtgidgmgpgfonnaaGreatKSCkB
/- What lent of the statements answers: binds in new memory, with marks. -/
namespace Go.Proofs.YtgidgmgpgfonnaaGreat
open Go.RowKit Go.Deep

theorem drew_below (w : World) : Below w.heap.size w w.drew := (Below.refl _ w).drew
theorem drew_size (w : World) : w.drew.heap.size = w.heap.size := rfl
set_option maxRecDepth 100000 in
set_option maxHeartbeats 4000000 in
theorem lentb_any (p : Option Addr) (cap : Nat) (bs : List Bn) (w : World) (hB : BindsAt w p bs.length bs) (hn : bs.length ≤ 1048575) :
    Calls Tryz.prog 6 #[.slice p bs.length cap] w fun e w' => ∃ g cap', e = .returned (.slice (some ⟨g, 0, none⟩) bs.length cap') ∧ LentB w' g cap' bs ∧ w.heap.size ≤ g ∧ Below w.heap.size w w' := by
  obtain ⟨i0, hi, hz0, hz1, hz2⟩ := info_parts Tryz.info43
  have HB := hid hB
  have hmax : maxLen = 9223372036854775807 := rfl
  clear hB
  go_enter Tryz.func6, Tryz.ntmps6
  go_wp2_with fail
  go_loopw [3, 4] (fun ov iv wr => ∃ (j : Nat) (v : Value) (ks : List Bk), j ≤ bs.length ∧ v = ov ∧ iv = .int .i64 j ∧ LstB true w.heap.size wr v ks ∧ ks.map bkBn = bs.take j ∧ Below w.heap.size w wr) (fun _ iv _ => bs.length - (intOf iv).toNat)
  case atStart => exact ⟨0, _, [], Nat.zero_le _, rfl, rfl, LstB.nil _ _ _, by simp, Below.refl _ _⟩
  case round =>
    obtain ⟨j, ov, ks, hj, rfl, rfl, hL, hks, hlow⟩ := hrel
    have HL := hid hL; have HK := hid hks; have HW := hid hlow
    have hkl : ks.length = j := by
      have := congrArg List.length hks
      rw [List.length_map, List.length_take] at this
      omega
    have HKL := hid hkl
    clear hL hks hlow hkl
    by_cases hlt : j < bs.length
    · obtain ⟨b1, o1, a1, c1, rfl, hbd⟩ := (HB.out.below HW.out).cells j hlt
      have htk : bs.take (j + 1) = bs.take j ++ [bs[j]] := List.take_succ_eq_append_getElem hlt
      obtain ⟨⟨vn, ⟨x, l⟩⟩, hy⟩ : ∃ y, bs[j] = y := ⟨_, rfl⟩
      rw [hy] at hbd htk
      have HTK := hid htk
      have HBD := hid hbd
      have p0 := hbd.var; have p1 := hbd.name; have p2 := hbd.sym; have p3 := hbd.list
      dsimp only at p0 p1 p2 p3
      have HC := hid (lent_any x l a1 c1 wr.drew (hbd.tm.below (drew_below wr)))
      have hr0 := (HL.out.row)
      rw [HKL.out] at hr0
      have HR0 := hid hr0
      have hwz := HW.out.size
      clear hbd hy htk hr0
      go_wp2_with fail
      go_region_law
        ((first
          | (refine step_append_lies _ (by rfl) (.tmp 11) (.tmp 24) 24 (by rfl) w.heap.size 43 i0 _ 4 64 Tryz.underlying24 hi hz0 hz1 hz2 rfl (by decide) ov j (bkAll ks) (by rfl) (owns_below (owns_below HR0.out HW1.out) ((Below.refl _ _).alloc (Nat.le_refl _) _)) ⟨w1.heap.size, 0, none⟩ 1 1 (bkCells (vn, ⟨x, l, a', c'⟩)) (by rfl) rfl (World.news_of_block (heap_alloc_new w1 _)) (bk_one _) (by decide) (by omega) (by omega) (by have := HW1.out.size; simp; omega) _ rfl ?_; intro g3 cap3 w3 hown3 hgrow3 hat3 hlt3; have HO3 := hid hown3; have HG3 := hid hgrow3; have HA3 := hid hat3; clear hown3 hgrow3 hat3)
          | (go_simp; go_wp2_with (go_at_call 18; refine HC.out.mono ?_; rintro e w1 ⟨a', c', rfl, ho1, hb1⟩; have HO1 : Hid (OwnTm true (fun k => wr.heap.size ≤ k) w1 x a' c' l) := ho1; have HW1 : Hid (Below wr.heap.size wr w1) := ((Below.refl _ wr).drew).trans hb1; have q0 := below_cell HW1.out _ _ p0; clear ho1 hb1))
          | fail))
      all_goals
        go_wp2_with fail
        go_roundw
        case rel =>
          have b2 := HW1.out.trans (((Below.refl _ w1).alloc (Nat.le_refl _) (.cells #[.string vn, .string x.1, .int .i64 x.2, .slice a' (lenF l) c'] 43)).mono HW1.out.size)
          refine ⟨j + 1, _, ks ++ [(vn, ⟨x, l, a', c'⟩)], by omega, rfl, by go_num, ?_, by rw [HTK.out, ← HK.out]; simp [bkBn, Kv.tn], ?_⟩
          · refine HL.out.grow b2 (fun k hk => ?_) hwz HG3.out (HA3.out.imp (fun e => e.symm) (fun e => by rw [e]; rfl)) ?_
            · simp only [List.mem_singleton] at hk
              subst hk
              exact HO1.out.below ((Below.refl _ _).alloc (Nat.le_refl _) _)
            · rw [bkAll_snoc, List.length_append, HKL.out]
              exact HO3.out
          · exact HW.out.trans ((b2.mono hwz).grown HG3.out (by have := HW1.out.size; rw [World.size_alloc]; omega) (fun k e => (owns_cells HL.out.row e).1))
        case measure => simp [intOf]; omega
    · have hjl : j = bs.length := by omega
      subst hjl
      have hks' : ks.map bkBn = bs := by have := HK.out; rwa [List.take_of_length_le (Nat.le_refl _)] at this
      have HK2 := hid hks'
      have hwz := HW.out.size
      have bx := (Below.refl _ wr).alloc (Nat.le_refl _) (.cells #[.string ⟨#[77, 97, 114, 107]⟩, .string ⟨#[]⟩, .int .i64 0, .slice none 0 0] 43)
      have BX := hid bx
      clear hks' bx
      go_wp2_with (at_builtin; go_loud (refine wpList_append_bk rfl _ _ rfl w.heap.size ov ks rfl (owns_below HL.out.row BX.out) wr.heap.size (markB, ⟨(⟨#[]⟩, 0), .nil, none, 0⟩) rfl (World.news_of_block (heap_alloc_new wr _)) (by rw [HKL.out]; omega) (by have := BX.out.size; omega) ?_; intro g3 cap3 w3 hown3 hgrow3 hat3; rw [List.length_append, List.length_singleton, HKL.out] at hown3; have hcap3 := owns_cap hown3; rw [HKL.out]; have HO3 := hid hown3; have HG3 := hid hgrow3; have HA3 := hid hat3; have hc3 : bs.length ≤ cap3 := (by omega); have hc4 : cap3 ≤ 9223372036854775807 := (by have := hcap3.2; omega); clear hown3 hgrow3 hat3 hcap3))
      go_ret
      refine ⟨g3, cap3, rfl, lent_of (P := fun q => w.heap.size ≤ q) (m := (markB, ⟨(⟨#[]⟩, 0), .nil, none, 0⟩)) (ks := ks) rfl (by rw [HKL.out]; exact HO3.out) (fun k hk => ?_) HK2.out HB.out.fits, (owns_cells HO3.out rfl).1, ?_⟩
      · have h1 := (HL.out.own k hk).below BX.out
        exact (h1.keep (fun q hq hlt => HG3.out.block q hlt hq.2)).mono (fun q _ hq => hq.1)
      · exact HW.out.trans ((BX.out.mono hwz).grown HG3.out (by rw [World.size_alloc]; omega) (fun k e => (owns_cells HL.out.row e).1))
end Go.Proofs.YtgidgmgpgfonnaaGreat
