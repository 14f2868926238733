/- slices.Grow of nothing; slices.Concat of rows of numbers. -/
import Derived.Test.YtbdkogccjnmfoaaLiE
import Derived.Lib.AppendZerosOnto
namespace Go.Proofs.Ytbdkogccjnmfoaa
open Go.RowKit Go.Shelf

set_option maxRecDepth 100000 in
set_option maxHeartbeats 2000000 in
theorem grow_nil (n : Nat) (w : World) (h0 : 0 < n) (hn : n ≤ 1048576) :
    Calls Try.prog 72 #[.slice none 0 0, .int .i64 n] w fun e w' => ∃ d, e = .returned (.slice (some ⟨w.heap.size, 0, none⟩) 0 d) ∧ w'.ownsRow w.heap.size 3 1 (.slice (some ⟨w.heap.size, 0, none⟩) 0 d) 0 [] ∧ Below w.heap.size w w' := by
  obtain ⟨i0, hi0, hz0, hz1, hz2⟩ := info_parts info3
  have hrz : (Builtin.append_ #[27, 3] 27 #[.slice none 0 0, .int .i64 (n : Int)]).run Try.prog w = .ok (.slice (some ⟨w.heap.size, 0, none⟩) n (grownCap w n 0 3)) (w.drew.alloc (.cells (#[] ++ Builtin.zeroCells #[.int .i64 0] n ++ Builtin.zeroCells #[.int .i64 0] (grownCap w n 0 3 - n)) 3)) := by
    have h := Lib.run_append_grow_zeros (P := Try.prog) w 27 3 27 3 i0 (.int .i64 0) .i64 .i64 Try.underlying27 Try.underlying3 hi0 hz0 none 0 0 [] (run_firstCells_none w.drew i0.size 0 0 0) n (by omega) (by rw [hz1]; decide) (by omega) (by omega)
      (by rw [hz2]; omega) (by rw [Nat.zero_add]; exact growslice_fits h0 (by rw [hz2]; omega))
    rw [Nat.zero_add] at h
    exact h
  obtain ⟨G, hG⟩ : ∃ G, G = grownCap w n 0 3 := ⟨_, rfl⟩
  have hGn : n ≤ G := by rw [hG]; exact grownCap_ge w _ _ _
  have hG63 : G ≤ maxLen := by rw [hG]; exact grownCap_le_maxLen w n 0 3 (by unfold maxLen; omega)
  rw [← hG] at hrz
  have hmax : maxLen = 9223372036854775807 := rfl
  have hb : Below w.heap.size w (w.drew.alloc (.cells (#[] ++ Builtin.zeroCells #[.int .i64 0] n ++ Builtin.zeroCells #[.int .i64 0] (G - n)) 3)) := (Below.refl _ w).drew.alloc (Nat.le_refl _) _
  have ho : (w.drew.alloc (.cells (#[] ++ Builtin.zeroCells #[.int .i64 0] n ++ Builtin.zeroCells #[.int .i64 0] (G - n)) 3)).ownsRow w.heap.size 3 1 (.slice (some ⟨w.heap.size, 0, none⟩) 0 G) 0 [] :=
    ⟨rfl, .inr ⟨w.heap.size, G, _, rfl, Nat.le_refl _, World.alloc_heap_new w.drew _, Nat.zero_le _, hG63, by simp [Builtin.zeroCells]; omega, rfl⟩⟩
  rw [Array.empty_append] at hrz hb ho
  have HB := hid hb; have HO := hid ho; have HR := hid hrz
  clear hb ho hrz hG
  go_enter Try.func72, Try.ntmps72
  go_wp2_with (first
    | (at_builtin; refine Lib.wpList_append_run _ rfl _ _ _ _ rfl _ _ rfl rfl _ _ HR.out ?_; clear HR)
    | fail)
  go_ret
  exact ⟨G, rfl, by rw [World.alloc_drew] at HO; exact HO.out, by rw [World.alloc_drew] at HB; exact HB.out⟩
set_option maxRecDepth 100000 in
set_option maxHeartbeats 4000000 in
theorem concat_any (a : Option Addr) (c : Nat) (ls : List (List Int)) (w : World) (hR : RowsAt w a ls) (hnil : ∀ i (h : i < ls.length) b o c, a = some ⟨b, o, none⟩ → w.cell? ⟨b, o + i, none⟩ = some (.slice none ls[i].length c) → c = 0) (hpos : 0 < ls.flatten.length) (hsm : ls.flatten.length ≤ 1048576) :
    Calls Try.prog 60 #[.slice a ls.length c] w fun e w' => ∃ q d, e = .returned (.slice q ls.flatten.length d) ∧ CRow w' w.heap.size q d ls.flatten ∧ Below w.heap.size w w' := by
  have HR := hid hR; have HN := hid hnil
  have hmax : maxLen = 9223372036854775807 := rfl
  have hs1 := hR.small
  have hle : ∀ j, (ls.take j).flatten.length ≤ ls.flatten.length := fun j => by
    have : ls.flatten = (ls.take j).flatten ++ (ls.drop j).flatten := by rw [← List.flatten_append, List.take_append_drop]
    rw [this, List.length_append]
    omega
  have hnext : ∀ j (h : j < ls.length), (ls.take (j + 1)).flatten = (ls.take j).flatten ++ ls[j] := fun j h => by
    rw [List.take_add_one, List.getElem?_eq_getElem h, List.flatten_append]
    simp only [Option.toList_some, List.flatten_cons, List.flatten_nil, List.append_nil]
  have HLE := hid hle; have HNX := hid hnext
  obtain ⟨N, hN⟩ : ∃ N, ls.flatten.length = N := ⟨_, rfl⟩
  rw [hN] at hpos hsm HLE ⊢
  have HN1 := hid hN
  have HG := hid (grow_nil N w hpos hsm)
  clear hR hnil hle hnext hN
  go_enter Try.func60, Try.ntmps60
  go_wp2_with fail
  go_loopw [3, 11] (fun s i wr => ∃ j : Nat, j ≤ ls.length ∧ i = .int .i64 j ∧ s = .int .i64 ((ls.take j).flatten.length : Nat) ∧ wr = w) (fun _ i _ => ls.length - (intOf i).toNat)
  case atStart => exact ⟨0, Nat.zero_le _, rfl, rfl, rfl⟩
  case round =>
    obtain ⟨j, hj, rfl, rfl, hwr⟩ := hrel
    subst hwr
    rename World => wo
    by_cases hlt : j < ls.length
    · obtain ⟨b, o, p, d, rfl, h2, h3⟩ := HR.out.cells j hlt
      have h4 := HLE.out (j + 1)
      rw [HNX.out j hlt, List.length_append] at h4
      have HE : Hid ((ls.take (j + 1)).flatten.length = (ls.take j).flatten.length + ls[j].length) := hid (by rw [HNX.out j hlt, List.length_append])
      obtain ⟨k, hk⟩ : ∃ k, (ls.take j).flatten.length = k := ⟨_, rfl⟩
      obtain ⟨l, hl⟩ : ∃ l, ls[j].length = l := ⟨_, rfl⟩
      rw [hk, hl] at h4 HE
      rw [hl] at h2
      rw [hk]
      have e1 : IntKind.i64.wrap ((k : Int) + l) = (k : Int) + l := IntWalk.i64_in _ (by constructor <;> omega)
      have h0 : ¬ ((k : Int) + l < 0) := by omega
      clear h3 hk hl
      go_wp2_with fail
      go_roundw
      case rel => exact ⟨j + 1, by omega, by go_num, by rw [HE.out]; rfl, trivial⟩
      case measure => simp [intOf]; omega
    · have e1 : j = ls.length := by omega
      subst e1
      rw [List.take_length, HN1.out]
      go_wp2_with fail
      refine HG.out.mono ?_
      rintro e w1 ⟨d1, rfl, ho, hb⟩
      have HO := hid ho; have HB := hid hb
      clear ho hb HG
      go_wp2_with fail
      go_loopw [6, 27] (fun v i wr => ∃ j : Nat, j ≤ ls.length ∧ i = .int .i64 j ∧ (∃ q d, v = .slice q (ls.take j).flatten.length d ∧ CRow wr wo.heap.size q d (ls.take j).flatten) ∧ Below wo.heap.size wo wr) (fun _ i _ => ls.length - (intOf i).toNat)
      case atStart => exact ⟨0, Nat.zero_le _, rfl, ⟨_, _, rfl, HO.out⟩, HB.out⟩
      case round =>
        obtain ⟨j, hj, rfl, ⟨q, d, rfl, hC⟩, hb⟩ := hrel
        by_cases hlt : j < ls.length
        · obtain ⟨b, o, p, d2, rfl, h2, h3⟩ := (HR.out.below hb).cells j hlt
          obtain ⟨b', o', p', d', h1', h2', h3'⟩ := HR.out.cells j hlt
          cases h1'
          have h4 := HLE.out (j + 1)
          rw [HNX.out j hlt, List.length_append] at h4
          have hsl := below_cell hb _ _ h2'
          rw [h2] at hsl
          injection hsl with hsl
          injection hsl with hp _ hd
          subst hp hd
          obtain ⟨p1, c1, W2, hr1, hA1, hG1⟩ := run_appI 27 wo.heap.size _ (ls.take j).flatten.length (cAll (ls.take j).flatten) wr hC p ls[j].length d2 (cAll ls[j]) (src_i d2 h3 (fun e => HN.out j hlt _ _ _ rfl (by rw [← e]; exact h2'))) (cAll_one _) (by omega) hb.size
          have hfin : CRow W2 wo.heap.size p1 c1 (ls.take (j + 1)).flatten ∧ Below wo.heap.size wo W2 := by
            refine ⟨?_, hb.trans ((fr_grown hG1).below (fun k hk => ?_) hb.size)⟩
            · unfold CRow
              rw [HNX.out j hlt, List.length_append]
              unfold cAll at hA1 ⊢
              rw [List.map_append]
              exact hA1
            · rcases hC.2 with ⟨e1, _⟩ | ⟨g, cap, cur, e1, e2, _⟩
              · rw [e1] at hk; cases hk
              · rw [e1] at hk
                have := Option.some.inj hk
                have : g = k := this
                omega
          have HE : Hid ((ls.take (j + 1)).flatten.length = (ls.take j).flatten.length + ls[j].length) := hid (by rw [HNX.out j hlt, List.length_append])
          have HFIN := hid hfin; have HR1 := hid hr1
          obtain ⟨k, hk⟩ : ∃ k, (ls.take j).flatten.length = k := ⟨_, rfl⟩
          obtain ⟨l, hl⟩ : ∃ l, ls[j].length = l := ⟨_, rfl⟩
          rw [hk, hl] at HE HR1
          rw [hl] at h2
          rw [hk]
          clear hC hb h3 hA1 hG1 hfin hr1 h4 h2' h3' hk hl
          go_wp2_with (first
            | (at_builtin; refine Lib.wpList_append_run _ rfl _ _ _ _ rfl _ _ rfl rfl _ _ HR1.out ?_; clear HR1)
            | fail)
          go_roundw
          case rel => exact ⟨j + 1, by omega, by go_num, ⟨_, _, by rw [HE.out], HFIN.out.1⟩, HFIN.out.2⟩
          case measure => simp [intOf]; omega
        · have e1 : j = ls.length := by omega
          subst e1
          rw [List.take_length] at hC
          rw [List.take_length, HN1.out]
          have HC := hid hC; have HB2 := hid hb
          clear hC hb
          go_wp2_with fail
          go_ret
          exact ⟨_, _, rfl, HC.out, HB2.out⟩
end Go.Proofs.Ytbdkogccjnmfoaa
