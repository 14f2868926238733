/- Numbers: the same?; lent, kept, written over. -/
import Derived.Test.YtbdkogccjnmfoabLiE
namespace Go.Proofs.Ytbdkogccjnmfoab
open Go.RowKit Go.Shelf

set_option maxRecDepth 100000 in
set_option maxHeartbeats 4000000 in
theorem same_any (a : Option Addr) (c : Nat) (xs : List Int) (b : Option Addr) (d : Nat) (ys : List Int) (w : World) (hA : IntsAt w a xs) (hB : IntsAt w b ys) :
    Calls Try.prog 11 #[.slice a xs.length c, .slice b ys.length d] w fun e w' => e = .returned (.bool (decide (xs = ys))) ∧ Below w.heap.size w w' := by
  have HA := hid hA; have HB := hid hB
  have hs := hA.small; have hs' := hB.small
  have hmax : maxLen = 9223372036854775807 := rfl
  clear hA hB
  by_cases hl : xs.length = ys.length
  · obtain ⟨R, hR⟩ : ∃ R, decide (xs = ys) = R := ⟨_, rfl⟩
    rw [hR]
    have HR := hid hR; have HL := hid hl
    rw [← hl] at hs' ⊢
    have hne : ((xs.length : Int) != (xs.length : Int)) = false := by simp
    clear hR hl
    go_enter Try.func11, Try.ntmps11
    go_wp2_with fail
    go_loopw [5] (fun iv wr => ∃ j : Nat, j ≤ xs.length ∧ iv = .int .i64 j ∧ xs.take j = ys.take j ∧ Below w.heap.size w wr) (fun iv _ => xs.length - (intOf iv).toNat)
    case atStart => exact ⟨0, Nat.zero_le _, rfl, rfl, Below.refl _ _⟩
    case round =>
      obtain ⟨j, hj, rfl, hm, hb⟩ := hrel
      by_cases hlt : j < xs.length
      · have hlt' : j < ys.length := by have := HL.out; omega
        obtain ⟨b1, o1, rfl, hc⟩ := (HA.out.below hb.drew).cells j hlt
        obtain ⟨b2, o2, rfl, hd⟩ := (HB.out.below hb.drew).cells j hlt'
        have HN : Hid (xs[j] = ys[j] → xs.take (j + 1) = ys.take (j + 1)) := hid fun e => by rw [List.take_add_one, List.take_add_one, List.getElem?_eq_getElem hlt, List.getElem?_eq_getElem hlt', e, hm]
        have HX : Hid (xs[j] ≠ ys[j] → R = false) := hid fun e => by
          rw [← HR.out]
          exact decide_eq_false (fun e2 => e (by subst e2; rfl))
        obtain ⟨x, hx⟩ : ∃ x, xs[j] = x := ⟨_, rfl⟩
        obtain ⟨y, hy⟩ : ∃ y, ys[j] = y := ⟨_, rfl⟩
        rw [hx, hy] at HN HX
        rw [hx] at hc
        rw [hy] at hd
        have HBB := hid hb
        clear hm hx hy hb
        by_cases hxy : x = y
        · subst hxy
          have hne2 : (x != x) = false := by simp
          have HN2 := hid (HN.out rfl)
          clear HN HX
          go_wp2_with fail
          go_region
          all_goals
            go_wp2_with fail
            go_roundw
            case rel => exact ⟨j + 1, by omega, by go_num, HN2.out, HBB.out.drew⟩
            case measure => simp [intOf]; omega
        · have hne2 : (x != y) = true := by simpa using hxy
          have HX2 := hid (HX.out hxy)
          clear HN HX hxy
          go_wp2_with fail
          go_region
          all_goals
            go_wp2_with fail
            go_ret
            exact ⟨by rw [HX2.out]; rfl, HBB.out.drew⟩
      · have e1 : j = xs.length := by omega
        have HF : Hid (R = true) := hid (by
          rw [← HR.out]
          refine decide_eq_true ?_
          rw [e1, List.take_length, HL.out, List.take_length] at hm
          exact hm)
        have HBB := hid hb
        clear hm hb
        go_wp2_with fail
        go_ret
        exact ⟨by rw [HF.out]; rfl, HBB.out⟩
  · have hne : ((xs.length : Int) != (ys.length : Int)) = true := by simp; omega
    have HF : Hid (decide (xs = ys) = false) := hid (decide_eq_false (fun e => hl (by rw [e])))
    go_enter Try.func11, Try.ntmps11
    go_wp2_with fail
    go_ret
    exact ⟨by rw [HF.out]; rfl, Below.refl _ _⟩

/-- A row with room. -/
def RoomR (W : World) (g cap : Nat) (xs : List Value) : Prop := xs.length ≤ cap ∧ ∃ cur, W.heap[g]? = some (.cells cur 3 (0, 0)) ∧ cur.size = cap ∧ cur.toList.take xs.length = xs
/-- An append for which there is room. -/
theorem run_room (ty : TypeId) (w : World) (g cap : Nat) (xs : List Value) (h : RoomR w g cap xs) (px : Option Addr) (m cx : Nat) (news : List Value)
    (hsrc : (px = none ∧ m = 0 ∧ cx = 0 ∧ news = []) ∨ ∃ ad, px = some ad ∧ news.length = m * 1 ∧ ∀ j u, news[j]? = some u → w.cell? (ad.add j) = some u) (h1 : ∀ u ∈ news, u.oneCell' = true) (hroom : xs.length + m ≤ cap) :
    ∃ w', (Builtin.append_ #[22, 22] ty #[.slice (some ⟨g, 0, none⟩) xs.length cap, .slice px m cx]).run Try.prog w = .ok (.slice (some ⟨g, 0, none⟩) (xs.length + m) cap) w' ∧ RoomR w' g cap (xs ++ news) ∧ Fr (fun b => b = g) w w' ∧ w'.heap.size = w.heap.size := by
  obtain ⟨i, hi, hz0, hsize, hz2⟩ := info_parts info3
  obtain ⟨hle, cur, hg, hcs, htk⟩ := h
  rcases hsrc with ⟨rfl, rfl, rfl, rfl⟩ | ⟨ad, rfl, hl, hn⟩
  · refine ⟨w, ?_, by rw [List.append_nil]; exact ⟨hle, cur, hg, hcs, htk⟩, Fr.refl _ _, rfl⟩
    simp [Builtin.append_, run_underlying Try.underlying22, sizeOf, typeInfo, hi, Builtin.lenOf, Builtin.firstCells, hle, storeCells]
  · rw [Nat.mul_one] at hl
    have hr := run_append_room (P := Try.prog) w 22 ty 3 i Try.underlying22 hi g xs.length cap _ hg ad m cx news (by rw [hsize, Nat.mul_one]; exact hl) hn h1 hroom (by rw [hsize]; omega)
    refine ⟨_, hr, ⟨by rw [List.length_append]; omega, _, setRow_heap w g _ _ 3 (0, 0) hg, ?_, ?_⟩, ⟨⟨rfl, rfl, rfl, by simp [World.setRow], fun k hk => absurd hk (Nat.not_lt_zero k)⟩, fun b _ hb => setRow_other w g b _ hb⟩, by simp [World.setRow]⟩
    · rw [hsize, Nat.mul_one]
      simp
      omega
    · rw [hsize, Nat.mul_one, htk, List.toList_toArray]
      exact List.take_left' (by simp)
/-- Numbers lent, with a mark behind. -/
structure LentI (W : World) (base g : Nat) (l : List Int) : Prop where
  blk : W.heap[g]? = some (.cells (cAll l ++ [Value.int .i64 77]).toArray 3 (0, 0))
  ge : base ≤ g
  small : l.length ≤ 17592186044416
theorem LentI.same {W W' : World} {base g : Nat} {l : List Int} (h : LentI W base g l) (hs : W'.heap[g]? = W.heap[g]?) : LentI W' base g l := ⟨hs.trans h.blk, h.ge, h.small⟩
theorem LentI.below {W W' : World} {base g : Nat} {l : List Int} (h : LentI W base g l) (hb : Below W.heap.size W W') : LentI W' base g l := h.same (hb.block _ (Array.getElem?_eq_some_iff.1 h.blk).1)
theorem LentI.ints {W : World} {base g : Nat} {l : List Int} (h : LentI W base g l) : IntsIn (fun b => b = g) W (some ⟨g, 0, none⟩) l := ⟨by have := h.small; unfold maxLen; omega, fun i hi => ⟨g, 0, rfl, rfl, cell_box h.blk (by
  rw [Nat.zero_add, List.getElem?_toArray, List.getElem?_append_left (by rw [cAll_len]; exact hi)]
  unfold cAll
  rw [List.getElem?_map, List.getElem?_eq_getElem hi]
  rfl)⟩⟩
end Go.Proofs.Ytbdkogccjnmfoab
