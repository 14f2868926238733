/- Of of the document. -/
import Derived.Test.YtplekhfnidhcoaaVoD
namespace Go.Proofs.Ytplekhfnidhcoaa
open Go.RowKit Go.Shelf Go.Deep

theorem on_yes {F : Nat → Bool} {l : List Sym} {m k : Nat} (hm : m < l.length) (h1 : unitOk l m = true) (h2 : (unitI l m == (k : Int)) = true) (hF : F m = true) : isU (onL F l) k = true :=
  isU_hit (by rw [onL_len]; exact hm) (by rw [unitAt_on hm, hF, if_pos rfl]; exact unit_yes h1 h2)
theorem on_no {F : Nat → Bool} {l : List Sym} {m k : Nat} (hm : m < l.length) (h : unitOk l m = false ∨ (unitI l m == (k : Int)) = false ∨ F m = false) : unitAt (onL F l) m ≠ some k := by
  rw [unitAt_on hm]
  cases hF : F m
  · rw [if_neg (by simp)]; intro e; cases e
  · rw [if_pos rfl]
    rcases h with h | h | h
    · exact unit_no1 h
    · exact unit_no2 h
    · rw [hF] at h; cases h
theorem ints_own {w : World} {base : Nat} {v : Value} {zs : List Int} (h : w.ownsRow base 3 1 v zs.length (ints zs)) (hs : zs.length ≤ maxLen) : ∃ q d, v = .slice q zs.length d ∧ IntsAt w q zs := by
  rcases h.2 with ⟨h1, h2⟩ | ⟨g, cap, cur, h1, h2, _⟩
  · exact ⟨none, 0, by rw [h2]; exact h1, hs, fun i hi => by omega⟩
  · subst h1
    exact ⟨_, _, rfl, hs, fun i hi => ⟨g, 0, rfl, owns_at h i _ (by unfold ints; rw [List.getElem?_map, List.getElem?_eq_getElem hi]; rfl)⟩⟩
set_option maxRecDepth 100000 in
set_option maxHeartbeats 8000000 in
theorem rof_any (p : Option Addr) (n c : Nat) (l : List Sym) (x1 : ByteArray × Int) (l1 : Fo) (a1 : Option Addr) (c1 : Nat) (x2 : ByteArray × Int) (l2 : Fo) (a2 : Option Addr) (c2 : Nat) (w : World) (hI : SigAt w p n l) (hn : n ≤ 2932031007317) (h1 : TmAt w x1 a1 c1 l1) (h2 : TmAt w x2 a2 c2 l2) :
    Calls Try.prog 11 #[.slice p n c, .agg #[.string x1.1, .int .i64 x1.2, .slice a1 (lenF l1) c1], .agg #[.string x2.1, .int .i64 x2.2, .slice a2 (lenF l2) c2]] w fun e w' => ∃ q d, e = .returned (.slice q (refTo (onL (stB x1 l1 x2 l2) l) n).length d) ∧ IntsAt w' q (refTo (onL (stB x1 l1 x2 l2) l) n) ∧ Below w.heap.size w w' := by
  obtain ⟨i0, hi9, hz0, hz1, hz2⟩ := info_parts Try.info3
  have b1 : Box ((w.alloc (.cells #[.string x1.1, .int .i64 x1.2, .slice a1 (lenF l1) c1] 26)).alloc (.cells #[.string x2.1, .int .i64 x2.2, .slice a2 (lenF l2) c2] 26)) w.heap.size 26 #[.string x1.1, .int .i64 x1.2, .slice a1 (lenF l1) c1] := (Box.new w 26 _).over _
  have b2 := Box.new (w.alloc (.cells #[.string x1.1, .int .i64 x1.2, .slice a1 (lenF l1) c1] 26)) 26 #[.string x2.1, .int .i64 x2.2, .slice a2 (lenF l2) c2]
  rw [World.size_alloc] at b2
  have hlow : Below w.heap.size w ((w.alloc (.cells #[.string x1.1, .int .i64 x1.2, .slice a1 (lenF l1) c1] 26)).alloc (.cells #[.string x2.1, .int .i64 x2.2, .slice a2 (lenF l2) c2] 26)) := ((Below.refl _ w).alloc (Nat.le_refl _) _).alloc (by simp) _
  have hlen := hI.len
  have HLEN := hid hlen
  have HI := hid (hI.below hlow); have H1 := hid (h1.below hlow); have H2 := hid (h2.below hlow); have HX1 := hid b1; have HX2 := hid b2; have HLO := hid hlow
  have hnz : (n : Int) ≤ 2932031007317 := by omega
  obtain ⟨L, hL⟩ : ∃ L, onL (stB x1 l1 x2 l2) l = L := ⟨_, rfl⟩
  rw [hL]
  have HLL := hid hL
  clear hI h1 h2 b1 b2 hlow hlen hL
  go_enter Try.func11, Try.ntmps11
  go_upto_region 1 with fail
  generalize (w.alloc (.cells #[.string x1.1, .int .i64 x1.2, .slice a1 (lenF l1) c1] 26)).alloc (.cells #[.string x2.1, .int .i64 x2.2, .slice a2 (lenF l2) c2] 26) = W0 at HI H1 H2 HX1 HX2 HLO ⊢
  go_wp2_with fail
  go_loopw [7, 8, 9, 10, 11, 12, 13] (fun v i _ _ _ _ _ w' => ∃ k : Nat, k ≤ n ∧ i = .int .i64 k ∧ w'.ownsRow W0.heap.size 3 1 v (refTo L k).length (ints (refTo L k)) ∧ Below W0.heap.size W0 w') (fun _ i _ _ _ _ _ _ => n - (intOf i).toNat)
  case atStart => exact ⟨0, Nat.zero_le _, rfl, World.ownsRow_nil _ _ _ _, Below.refl _ _⟩
  case round =>
    obtain ⟨k, hk, rfl, hown, hb⟩ := hrel
    have HB : Hid (Below W0.heap.size W0 wr) := hb
    have HO : Hid (wr.ownsRow W0.heap.size 3 1 u7 (refTo L k).length (ints (refTo L k))) := hown
    clear hown hb
    by_cases hlt : k < n
    · go_wp2
      go_loopw [7, 9, 10, 11, 12, 13] (fun v j _ _ _ _ w' => ∃ m : Nat, m ≤ n ∧ j = .int .i64 m ∧ w'.ownsRow W0.heap.size 3 1 v (refTo L k).length (ints (refTo L k)) ∧ Below W0.heap.size W0 w' ∧ ∀ q, q < m → unitAt L q ≠ some k) (fun _ j _ _ _ _ _ => n - (intOf j).toNat)
      case atStart => exact ⟨0, Nat.zero_le _, rfl, HO.out, HB.out, fun q hq => absurd hq (by omega)⟩
      case round =>
        obtain ⟨m, hm, rfl, hown2, hb2, hno⟩ := hrel
        have HB2 : Hid (Below W0.heap.size W0 wr) := hb2
        have HOW : Hid (wr.ownsRow W0.heap.size 3 1 u7 (refTo L k).length (ints (refTo L k))) := hown2
        have HN : Hid (∀ q, q < m → unitAt L q ≠ some k) := hno
        have hle := refTo_le L k
        clear hb2 hno hown2
        by_cases hlt2 : m < n
        · have hlm : m < l.length := by have := HLEN.out; omega
          obtain ⟨ok, hok⟩ : ∃ b, unitOk l (m : Int) = b := ⟨_, rfl⟩
          obtain ⟨xu, hxu⟩ : ∃ z, unitI l (m : Int) = z := ⟨_, rfl⟩
          obtain ⟨ein, hin⟩ : ∃ b, stR (m : Int) x1 l1 = b := ⟨_, rfl⟩
          obtain ⟨too, htoo⟩ : ∃ b, stR (m : Int) x2 l2 = b := ⟨_, rfl⟩
          obtain ⟨eqb, heqb⟩ : ∃ b, (xu == (k : Int)) = b := ⟨_, rfl⟩
          have HYES : Hid (ok = true → eqb = true → (ein || too) = true → isU L k = true) := hid (fun e1 e2 e3 => by rw [← HLL.out]; exact on_yes hlm (hok.trans e1) (by rw [hxu]; exact heqb.trans e2) (by unfold stB; rw [hin, htoo]; exact e3))
          have HNO : Hid (ok = false ∨ eqb = false ∨ (ein || too) = false → unitAt L m ≠ some k) := hid (fun h => by
            rw [← HLL.out]
            refine on_no hlm ?_
            rcases h with h | h | h
            · exact .inl (hok.trans h)
            · exact .inr (.inl (by rw [hxu]; exact heqb.trans h))
            · exact .inr (.inr (by unfold stB; rw [hin, htoo]; exact h)))
          have hRU := runit_any p n c l (m : Int) wr (HI.out.below HB2.out)
          unfold UnitRet at hRU
          rw [hok, hxu] at hRU
          have HRU := hid hRU
          have HC1 : Hid (∀ W, Below W0.heap.size W0 W → Calls Try.prog 27 #[.agg #[.string x1.1, .int .i64 x1.2, .slice a1 (lenF l1) c1], .int .i64 (m : Int)] W fun e w' => e = .returned (.bool ein) ∧ Below W.heap.size W w') := hid (fun W hW => by rw [← hin]; exact rst_all (nodesF l1) (m : Int) x1 l1 a1 c1 W (Nat.le_refl _) (H1.out.below hW))
          have HC2 : Hid (∀ W, Below W0.heap.size W0 W → Calls Try.prog 27 #[.agg #[.string x2.1, .int .i64 x2.2, .slice a2 (lenF l2) c2], .int .i64 (m : Int)] W fun e w' => e = .returned (.bool too) ∧ Below W.heap.size W w') := hid (fun W hW => by rw [← htoo]; exact rst_all (nodesF l2) (m : Int) x2 l2 a2 c2 W (Nat.le_refl _) (H2.out.below hW))
          have HLM := hid hlm
          clear hok hxu hin htoo hRU hlm
          go_wp2_with fail
          refine HRU.out.mono ?_
          rintro e w2 ⟨rfl, hw2⟩
          rw [hw2]
          have bx1 := HX1.out.below HB2.out
          have t0 : wr.cell? ⟨w.heap.size, 0, none⟩ = some (.string x1.1) := bx1.c 0
          have t1 : wr.cell? ⟨w.heap.size, 1, none⟩ = some (.int .i64 x1.2) := bx1.c 1
          have t2 : wr.cell? ⟨w.heap.size, 2, none⟩ = some (.slice a1 (lenF l1) c1) := bx1.c 2
          clear hw2 HRU bx1
          go_wp2_with fail
          refine (HC1.out wr HB2.out).mono ?_
          rintro e w5 ⟨rfl, hb5⟩
          have HB5 := hid (HB2.out.trans (hb5.mono HB2.out.size)); have HO5 := hid (owns_block HOW.out (fun g hg => hb5.block g (by
            obtain ⟨cur, h1⟩ := (owns_cells HOW.out hg).2
            exact (Array.getElem?_eq_some_iff.1 h1).1)))
          clear hb5 t0 t1 t2 HC1
          have bx2 := HX2.out.below HB5.out
          have t0 : w5.cell? ⟨w.heap.size + 1, 0, none⟩ = some (.string x2.1) := bx2.c 0
          have t1 : w5.cell? ⟨w.heap.size + 1, 1, none⟩ = some (.int .i64 x2.2) := bx2.c 1
          have t2 : w5.cell? ⟨w.heap.size + 1, 2, none⟩ = some (.slice a2 (lenF l2) c2) := bx2.c 2
          clear bx2
          go_wp2_with fail
          refine (HC2.out w5 HB5.out).mono ?_
          rintro e w6 ⟨rfl, hb6⟩
          have HB6 := hid (HB5.out.trans (hb6.mono HB5.out.size)); have HO6 := hid (owns_block HO5.out (fun g hg => hb6.block g (by
            obtain ⟨cur, h1⟩ := (owns_cells HO5.out hg).2
            exact (Array.getElem?_eq_some_iff.1 h1).1)))
          clear hb6 t0 t1 t2 HC2 HB5 HO5 HB2 HOW
          have HNEXT : Hid (∀ q, (unitAt L m ≠ some k) → q < m + 1 → unitAt L q ≠ some k) := hid (fun q hms hq => by
            rcases Nat.lt_succ_iff_lt_or_eq.1 hq with hq | rfl
            · exact HN.out q hq
            · exact hms)
          cases ok with
          | false =>
            have HMISS := hid (HNO.out (.inl rfl))
            go_wp2
            go_roundw
            case rel => exact ⟨m + 1, by omega, by go_num, HO6.out, HB6.out, fun q hq => HNEXT.out q HMISS.out hq⟩
            case measure => simp [intOf]; omega
          | true =>
            cases eqb with
            | false =>
              have HMISS := hid (HNO.out (.inr (.inl rfl)))
              go_wp2
              go_roundw
              case rel => exact ⟨m + 1, by omega, by go_num, HO6.out, HB6.out, fun q hq => HNEXT.out q HMISS.out hq⟩
              case measure => simp [intOf]; omega
            | true =>
              cases hio : (ein || too) with
              | false =>
                have HMISS := hid (HNO.out (.inr (.inr hio)))
                obtain ⟨rfl, rfl⟩ : ein = false ∧ too = false := by cases ein <;> cases too <;> simp_all
                clear hio
                go_wp2
                go_roundw
                case rel => exact ⟨m + 1, by omega, by go_num, HO6.out, HB6.out, fun q hq => HNEXT.out q HMISS.out hq⟩
                case measure => simp [intOf]; omega
              | true =>
                have HHIT := hid (HYES.out rfl rfl hio)
                have hown6 := HO6.out
                have key : ein = true ∨ (ein = false ∧ too = true) := by cases ein <;> cases too <;> simp_all
                have HGS : Hid (W0.heap.size ≤ w6.heap.size) := hid HB6.out.size
                rcases key with rfl | ⟨rfl, rfl⟩
                · clear hio
                  go_wp2_with (at_builtin; refine wpList_append_lies _ rfl (.tmp 50) (.tmp 52) 29 rfl W0.heap.size 3 i0 _ 1 8 Try.underlying29 hi9 hz0 hz1 hz2 rfl (by decide) u7 (refTo L k).length (ints (refTo L k)) rfl (hown6.alloc _) ⟨w6.heap.size, 0, none⟩ 1 1 (ints [(k : Int)]) rfl rfl (int_news _ _ (by simp) _) (ints_one _) (by decide) (by unfold maxLen; omega) (by omega) (by have := HGS.out; simp; omega) _ rfl ?_; intro g3 cap3 w7 hown3 hgrow3 _ _)
                  have HB3 : Hid (Below W0.heap.size W0 w7) := (HB6.out.alloc HB6.out.size _).grown hgrow3 (by have := HB6.out.size; simp; omega) (own_base hown6)
                  clear hgrow3 hown6
                  go_roundw
                  case rel => exact ⟨k + 1, by omega, by go_num, by rw [refTo_yes HHIT.out]; simpa [ints] using hown3, HB3.out⟩
                  case measure => simp [intOf]; omega
                · clear hio
                  go_wp2_with (at_builtin; refine wpList_append_lies _ rfl (.tmp 50) (.tmp 52) 29 rfl W0.heap.size 3 i0 _ 1 8 Try.underlying29 hi9 hz0 hz1 hz2 rfl (by decide) u7 (refTo L k).length (ints (refTo L k)) rfl (hown6.alloc _) ⟨w6.heap.size, 0, none⟩ 1 1 (ints [(k : Int)]) rfl rfl (int_news _ _ (by simp) _) (ints_one _) (by decide) (by unfold maxLen; omega) (by omega) (by have := HGS.out; simp; omega) _ rfl ?_; intro g3 cap3 w7 hown3 hgrow3 _ _)
                  have HB3 : Hid (Below W0.heap.size W0 w7) := (HB6.out.alloc HB6.out.size _).grown hgrow3 (by have := HB6.out.size; simp; omega) (own_base hown6)
                  clear hgrow3 hown6
                  go_roundw
                  case rel => exact ⟨k + 1, by omega, by go_num, by rw [refTo_yes HHIT.out]; simpa [ints] using hown3, HB3.out⟩
                  case measure => simp [intOf]; omega
        · have hmiss : Hid (isU L k = false) := isU_miss fun q hq => HN.out q (by have := HLEN.out; rw [← HLL.out, onL_len] at hq; omega)
          go_wp2
          go_roundw
          case rel => exact ⟨k + 1, by omega, by go_num, by rw [refTo_no hmiss.out]; exact HOW.out, HB2.out⟩
          case measure => simp [intOf]; omega
    · obtain rfl : k = n := by omega
      obtain ⟨q9, d9, hv9, hi99⟩ := ints_own HO.out (by have := refTo_le L k; unfold maxLen; omega)
      subst hv9
      have HI9 := hid hi99
      clear hi99
      go_wp2
      go_ret
      exact ⟨q9, d9, rfl, HI9.out, HLO.out.trans (HB.out.mono HLO.out.size)⟩
end Go.Proofs.Ytplekhfnidhcoaa
