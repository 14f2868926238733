/- Numbers: the same?; lent, kept, written over. -/
import Derived.Test.YtbdkogccjnmfoaaLiE
namespace Go.Proofs.Ytbdkogccjnmfoaa
open Go.RowKit Go.Shelf

set_option maxRecDepth 100000 in
set_option maxHeartbeats 4000000 in
theorem same_any (a : Option Addr) (c : Nat) (xs : List Int) (b : Option Addr) (d : Nat) (ys : List Int) (w : World) (hA : IntsAt w a xs) (hB : IntsAt w b ys) :
    Calls Try.prog 14 #[.slice a xs.length c, .slice b ys.length d] w fun e w' => e = .returned (.bool (decide (xs = ys))) ∧ Below w.heap.size w w' := by
  have HA := hid hA; have HB := hid hB
  have hs := hA.small; have hs' := hB.small
  have hmax : maxLen = 9223372036854775807 := rfl
  clear hA hB
  by_cases hl : xs.length = ys.length
  · obtain ⟨R, hR⟩ : ∃ R, decide (xs = ys) = R := ⟨_, rfl⟩
    rw [hR]
    have HR := hid hR; have HL := hid hl
    rw [← hl] at hs' ⊢
    have hne : ((xs.length : Int) != (xs.length : Int)) = false := by simp
    clear hR hl
    go_enter Try.func14, Try.ntmps14
    go_wp2_with fail
    go_loopw [5] (fun iv wr => ∃ j : Nat, j ≤ xs.length ∧ iv = .int .i64 j ∧ xs.take j = ys.take j ∧ Below w.heap.size w wr) (fun iv _ => xs.length - (intOf iv).toNat)
    case atStart => exact ⟨0, Nat.zero_le _, rfl, rfl, Below.refl _ _⟩
    case round =>
      obtain ⟨j, hj, rfl, hm, hb⟩ := hrel
      by_cases hlt : j < xs.length
      · have hlt' : j < ys.length := by have := HL.out; omega
        obtain ⟨b1, o1, rfl, hc⟩ := (HA.out.below hb.drew).cells j hlt
        obtain ⟨b2, o2, rfl, hd⟩ := (HB.out.below hb.drew).cells j hlt'
        have HN : Hid (xs[j] = ys[j] → xs.take (j + 1) = ys.take (j + 1)) := hid fun e => by rw [List.take_add_one, List.take_add_one, List.getElem?_eq_getElem hlt, List.getElem?_eq_getElem hlt', e, hm]
        have HX : Hid (xs[j] ≠ ys[j] → R = false) := hid fun e => by
          rw [← HR.out]
          exact decide_eq_false (fun e2 => e (by subst e2; rfl))
        obtain ⟨x, hx⟩ : ∃ x, xs[j] = x := ⟨_, rfl⟩
        obtain ⟨y, hy⟩ : ∃ y, ys[j] = y := ⟨_, rfl⟩
        rw [hx, hy] at HN HX
        rw [hx] at hc
        rw [hy] at hd
        have HBB := hid hb
        clear hm hx hy hb
        by_cases hxy : x = y
        · subst hxy
          have hne2 : (x != x) = false := by simp
          have HN2 := hid (HN.out rfl)
          clear HN HX
          go_wp2_with fail
          go_region
          all_goals
            go_wp2_with fail
            go_roundw
            case rel => exact ⟨j + 1, by omega, by go_num, HN2.out, HBB.out.drew⟩
            case measure => simp [intOf]; omega
        · have hne2 : (x != y) = true := by simpa using hxy
          have HX2 := hid (HX.out hxy)
          clear HN HX hxy
          go_wp2_with fail
          go_region
          all_goals
            go_wp2_with fail
            go_ret
            exact ⟨by rw [HX2.out]; rfl, HBB.out.drew⟩
      · have e1 : j = xs.length := by omega
        have HF : Hid (R = true) := hid (by
          rw [← HR.out]
          refine decide_eq_true ?_
          rw [e1, List.take_length, HL.out, List.take_length] at hm
          exact hm)
        have HBB := hid hb
        clear hm hb
        go_wp2_with fail
        go_ret
        exact ⟨by rw [HF.out]; rfl, HBB.out⟩
  · have hne : ((xs.length : Int) != (ys.length : Int)) = true := by simp; omega
    have HF : Hid (decide (xs = ys) = false) := hid (decide_eq_false (fun e => hl (by rw [e])))
    go_enter Try.func14, Try.ntmps14
    go_wp2_with fail
    go_ret
    exact ⟨by rw [HF.out]; rfl, Below.refl _ _⟩

/-- A row with room. -/
def RoomR (W : World) (g cap : Nat) (xs : List Value) : Prop := xs.length ≤ cap ∧ ∃ cur, W.heap[g]? = some (.cells cur 3 (0, 0)) ∧ cur.size = cap ∧ cur.toList.take xs.length = xs
/-- An append for which there is room. -/
theorem run_room (ty : TypeId) (w : World) (g cap : Nat) (xs : List Value) (h : RoomR w g cap xs) (px : Option Addr) (m cx : Nat) (news : List Value)
    (hsrc : (px = none ∧ m = 0 ∧ cx = 0 ∧ news = []) ∨ ∃ ad, px = some ad ∧ news.length = m * 1 ∧ ∀ j u, news[j]? = some u → w.cell? (ad.add j) = some u) (h1 : ∀ u ∈ news, u.oneCell' = true) (hroom : xs.length + m ≤ cap) :
    ∃ w', (Builtin.append_ #[27, 27] ty #[.slice (some ⟨g, 0, none⟩) xs.length cap, .slice px m cx]).run Try.prog w = .ok (.slice (some ⟨g, 0, none⟩) (xs.length + m) cap) w' ∧ RoomR w' g cap (xs ++ news) ∧ Fr (fun b => b = g) w w' ∧ w'.heap.size = w.heap.size := by
  obtain ⟨i, hi, hz0, hsize, hz2⟩ := info_parts info3
  obtain ⟨hle, cur, hg, hcs, htk⟩ := h
  rcases hsrc with ⟨rfl, rfl, rfl, rfl⟩ | ⟨ad, rfl, hl, hn⟩
  · refine ⟨w, ?_, by rw [List.append_nil]; exact ⟨hle, cur, hg, hcs, htk⟩, Fr.refl _ _, rfl⟩
    simp [Builtin.append_, run_underlying Try.underlying27, sizeOf, typeInfo, hi, Builtin.lenOf, Builtin.firstCells, hle, storeCells]
  · rw [Nat.mul_one] at hl
    have hr := run_append_room (P := Try.prog) w 27 ty 3 i Try.underlying27 hi g xs.length cap _ hg ad m cx news (by rw [hsize, Nat.mul_one]; exact hl) hn h1 hroom (by rw [hsize]; omega)
    refine ⟨_, hr, ⟨by rw [List.length_append]; omega, _, setRow_heap w g _ _ 3 (0, 0) hg, ?_, ?_⟩, ⟨⟨rfl, rfl, rfl, by simp [World.setRow], fun k hk => absurd hk (Nat.not_lt_zero k)⟩, fun b _ hb => setRow_other w g b _ hb⟩, by simp [World.setRow]⟩
    · rw [hsize, Nat.mul_one]
      simp
      omega
    · rw [hsize, Nat.mul_one, htk, List.toList_toArray]
      exact List.take_left' (by simp)
/-- Numbers lent, with a mark behind. -/
structure LentI (W : World) (base g : Nat) (l : List Int) : Prop where
  blk : W.heap[g]? = some (.cells (cAll l ++ [Value.int .i64 77]).toArray 3 (0, 0))
  ge : base ≤ g
  small : l.length ≤ 17592186044416
theorem LentI.same {W W' : World} {base g : Nat} {l : List Int} (h : LentI W base g l) (hs : W'.heap[g]? = W.heap[g]?) : LentI W' base g l := ⟨hs.trans h.blk, h.ge, h.small⟩
theorem LentI.below {W W' : World} {base g : Nat} {l : List Int} (h : LentI W base g l) (hb : Below W.heap.size W W') : LentI W' base g l := h.same (hb.block _ (Array.getElem?_eq_some_iff.1 h.blk).1)
theorem LentI.ints {W : World} {base g : Nat} {l : List Int} (h : LentI W base g l) : IntsIn (fun b => b = g) W (some ⟨g, 0, none⟩) l := ⟨by have := h.small; unfold maxLen; omega, fun i hi => ⟨g, 0, rfl, rfl, cell_box h.blk (by
  rw [Nat.zero_add, List.getElem?_toArray, List.getElem?_append_left (by rw [cAll_len]; exact hi)]
  unfold cAll
  rw [List.getElem?_map, List.getElem?_eq_getElem hi]
  rfl)⟩⟩
set_option maxRecDepth 100000 in
set_option maxHeartbeats 2000000 in
theorem lent_any (p : Option Addr) (c : Nat) (l : List Int) (w : World) (hI : IntsAt w p l) (hn : p = none → c = 0) (hl : l.length ≤ 17592186043904) :
    Calls Try.prog 16 #[.slice p l.length c] w fun e w' => ∃ g, e = .returned (.slice (some ⟨g, 0, none⟩) l.length (l.length + 1)) ∧ LentI w' w.heap.size g l ∧ Below w.heap.size w w' := by
  obtain ⟨i0, hi0, hz0, hz1, hz2⟩ := info_parts info3
  have HI := hid hI; have HN := hid hn
  have hmax : maxLen = 9223372036854775807 := rfl
  have e1 : IntKind.i64.wrap ((l.length : Int) + 1) = ((l.length + 1 : Nat) : Int) := by rw [IntWalk.i64_in _ (by constructor <;> omega)]; rfl
  obtain ⟨n, hln⟩ : ∃ n, l.length = n := ⟨_, rfl⟩
  have HLN := hid hln
  rw [hln] at hl e1 ⊢
  clear hI hn hln
  have key : ∀ w0, w0.ownsRow w.heap.size 3 1 (.slice (some ⟨w.heap.size, 0, none⟩) 0 (n + 1)) 0 [] → w.grownBy w0 none → ∃ w1 w2 w3, (Builtin.append_ #[27, 27] 27 #[.slice (some ⟨w.heap.size, 0, none⟩) 0 (n + 1), .slice p n c]).run Try.prog w0 = .ok (.slice (some ⟨w.heap.size, 0, none⟩) n (n + 1)) w1 ∧ w2 = w1.alloc (.cells #[.int .i64 77] 3) ∧
      (Builtin.append_ #[27, 27] 27 #[.slice (some ⟨w.heap.size, 0, none⟩) n (n + 1), .slice (some ⟨w1.heap.size, 0, none⟩) 1 1]).run Try.prog w2 = .ok (.slice (some ⟨w.heap.size, 0, none⟩) (n + 1) (n + 1)) w3 ∧ LentI w3 w.heap.size w.heap.size l ∧ Below w.heap.size w w3 := by
    intro w0 ho hgr
    have hb0 : Below w.heap.size w w0 := (Below.refl _ _).grown hgr (Nat.le_refl _) (fun k e => by cases e)
    rcases ho.2 with ⟨h0, _⟩ | ⟨g, cap, cur, h1, h2, h3, h4, h5, h6, h7⟩
    · cases h0
    injection h1 with h1 _ hcap
    injection h1 with h1
    injection h1 with h1 _ _
    subst h1 hcap
    have hR0 : RoomR w0 w.heap.size (n + 1) [] := ⟨Nat.zero_le _, cur, h3, by omega, rfl⟩
    obtain ⟨w1, hr1, hR1, hf1, hs1⟩ := run_room 27 w0 w.heap.size (n + 1) [] hR0 p n c (cAll l) (by
      rcases src_i c (HI.out.below hb0) HN.out with ⟨q1, q2, q3, q4⟩ | ⟨ad, q1, q2, q3⟩
      · exact .inl ⟨q1, by rw [← HLN.out]; exact q2, q3, q4⟩
      · exact .inr ⟨ad, q1, by rw [q2, HLN.out], q3⟩) (cAll_one l) (by simp)
    rw [List.length_nil, Nat.zero_add] at hr1
    rw [List.nil_append] at hR1
    have b2 := alloc_below0 w1 (.cells #[.int .i64 77] 3)
    have hR2 : RoomR (w1.alloc (.cells #[.int .i64 77] 3)) w.heap.size (n + 1) (cAll l) := by
      obtain ⟨q1, cur1, q2, q3⟩ := hR1
      exact ⟨q1, cur1, below_blk b2 q2, q3⟩
    obtain ⟨w3, hr3, hR3, hf3, hs3⟩ := run_room 27 (w1.alloc (.cells #[.int .i64 77] 3)) w.heap.size (n + 1) (cAll l) hR2 (some ⟨w1.heap.size, 0, none⟩) 1 1 [.int .i64 77] (.inr ⟨_, rfl, rfl, fun j u hj => by
      match j, hj with
      | 0, hj => cases hj; exact cell_box (World.alloc_heap_new w1 _) rfl⟩) (fun u hu => by rw [List.mem_singleton.1 hu]; rfl) (by rw [cAll_len, HLN.out]; omega)
    rw [cAll_len, HLN.out] at hr3
    refine ⟨w1, _, w3, hr1, rfl, hr3, ⟨?_, Nat.le_refl _, by rw [HLN.out]; omega⟩, ?_⟩
    · obtain ⟨q1, cur1, q2, q3, q4⟩ := hR3
      rw [q2]
      congr 2
      have : cur1.toList = cAll l ++ [Value.int .i64 77] := by
        rw [← q4, List.take_of_length_le (by simp [cAll_len, HLN.out]; omega)]
      rw [← this]
    · have h9 := hf1.below (n := w.heap.size) (fun k hk => by omega) hb0.size
      have h10 := hf3.below (n := w.heap.size) (fun k hk => by omega) (Nat.le_trans (Nat.le_trans hb0.size h9.size) b2.size)
      exact hb0.trans (h9.trans ((b2.mono (by have := h9.size; have := hb0.size; omega)).trans h10))
  have HK := hid key
  clear key
  go_enter Try.func16, Try.ntmps16
  go_wp2_with (first
    | (at_make; refine wpList_make_own _ rfl _ _ 27 rfl w.heap.size 3 i0 (.int .i64 0) 1 Try.underlying27 hi0 hz0 hz1 .i64 .i64 _ (n + 1) rfl rfl (by first | rfl | omega) (by rw [hz2]; omega) (by omega) (Nat.le_refl _) ?_; intro w0 hown0 hgrow0; obtain ⟨w1, w2, w3, hr1, hw2, hr3, hL3, hb3⟩ := HK.out w0 hown0 hgrow0; have HR1 := hid hr1; have HR3 := hid hr3; have HW2 := hid hw2; have HL3 := hid hL3; have HB3 := hid hb3; clear hr1 hr3 hw2 hL3 hb3 hown0 hgrow0 HK)
    | (at_builtin; refine Lib.wpList_append_run _ rfl _ _ _ _ rfl _ _ rfl rfl _ _ HR1.out ?_; clear HR1)
    | (at_builtin; refine Lib.wpList_append_run _ rfl _ _ _ _ rfl _ _ rfl rfl _ _ (by rw [← HW2.out]; exact HR3.out) ?_; clear HR3)
    | fail)
  go_ret
  exact ⟨_, rfl, HL3.out, HB3.out⟩
set_option maxRecDepth 100000 in
set_option maxHeartbeats 2000000 in
theorem kept_any (base g : Nat) (l : List Int) (q : Option Addr) (d : Nat) (w : World) (hL : LentI w base g l) (hI : IntsAt w q l) (hl : l.length ≤ 17592186043904) :
    Calls Try.prog 19 #[.slice (some ⟨g, 0, none⟩) l.length (l.length + 1), .slice q l.length d] w fun e w' => e = .returned (.bool true) ∧ Below w.heap.size w w' := by
  have HS := hid (same_any (some ⟨g, 0, none⟩) (l.length + 1) l q d l w hL.ints.at hI)
  rw [decide_eq_true rfl] at HS
  have HL := hid hL
  have hmax : maxLen = 9223372036854775807 := rfl
  have e1 : IntKind.i64.wrap ((l.length : Int) + 1) = ((l.length : Int) + 1) := IntWalk.i64_in _ (by constructor <;> omega)
  clear hL hI
  go_enter Try.func19, Try.ntmps19
  go_wp2_with fail
  refine HS.out.mono ?_
  rintro e w1 ⟨rfl, hb⟩
  have c1 : w1.cell? ⟨g, l.length, none⟩ = some (.int .i64 77) := cell_box (HL.out.below hb).blk (by
    rw [List.getElem?_toArray, List.getElem?_append_right (by rw [cAll_len]; omega), cAll_len, Nat.sub_self]
    rfl)
  have HB := hid hb
  clear hb HS
  go_wp2_with fail
  go_ret
  exact ⟨rfl, HB.out⟩
set_option maxRecDepth 100000 in
set_option maxHeartbeats 2000000 in
theorem spoil_any (g n cap : Nat) (cur : Array Value) (w : World) (hg : w.heap[g]? = some (.cells cur 3 (0, 0))) (hc : cur.size = cap) (hcm : cap ≤ maxLen) :
    Calls Try.prog 22 #[.slice (some ⟨g, 0, none⟩) n cap] w fun e w' => (∃ u, e = .returned u) ∧ Fr (fun q => q = g) w w' := by
  have hmax : maxLen = 9223372036854775807 := rfl
  have HG : Hid (∃ cur, w.heap[g]? = some (.cells cur 3 (0, 0)) ∧ cur.size = cap) := hid ⟨cur, hg, hc⟩
  clear hg hc
  go_enter Try.func22, Try.ntmps22
  go_wp2_with fail
  go_loopw [2] (fun iv wr => ∃ i : Nat, i ≤ cap ∧ iv = .int .i64 i ∧ Fr (fun q => q = g) w wr ∧ ∃ cur, wr.heap[g]? = some (.cells cur 3 (0, 0)) ∧ cur.size = cap) (fun iv _ => cap - (intOf iv).toNat)
  case atStart => exact ⟨0, Nat.zero_le _, rfl, Fr.refl _ _, HG.out⟩
  case round =>
    obtain ⟨i, hi, rfl, hf, cu, h1, h2⟩ := hrel
    by_cases hlt : i < cap
    · have x1 : wr.cell? ⟨g, i, none⟩ = some (cu[i]'(by omega)) := cell_box h1 (by simp [h2, hlt])
      have f1 : wr.frozen? ⟨g, i, none⟩ = false := free_box h1
      have HS := hid (And.intro (hf.trans (fr_set wr g i (.int .i64 (-7)))) (block_set (k := i) h1 (.int .i64 (-7))))
      have HC : Hid ((cu.setIfInBounds i (.int .i64 (-7))).size = cap) := hid (by simp [h2])
      generalize cu[i]'(by omega) = old at x1
      clear hf h1 h2
      go_wp2_with fail
      go_roundw
      case rel => exact ⟨i + 1, by omega, by go_num, HS.out.1, _, HS.out.2, HC.out⟩
      case measure => simp [intOf]; omega
    · have HF := hid hf
      clear hf h1 h2
      go_wp2_with fail
      go_end0
      exact ⟨⟨_, rfl⟩, HF.out⟩
end Go.Proofs.Ytbdkogccjnmfoaa
