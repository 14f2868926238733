/- spoil: whoever has rows writes over them. -/
import Derived.Test.YteakakonjfcpmaaDoorPkSA
namespace Go.Proofs.YteakakonjfcpmaaDoor
open Go.RowKit Go.Shelf

/-- A row's room, in a block from base on. -/
def RoomAt (W : World) (base : Nat) (q : Option Addr) (d : Nat) : Prop := (q = none ∧ d = 0) ∨ ∃ g cur, q = some ⟨g, 0, none⟩ ∧ base ≤ g ∧ W.heap[g]? = some (.cells cur 3 (0, 0)) ∧ cur.size = d
theorem RoomAt.set {W : World} {base : Nat} {q : Option Addr} {d : Nat} (h : RoomAt W base q d) {k i : Nat} {u : Value} (hk : ∃ cur, W.heap[k]? = some (.cells cur 3 (0, 0))) : RoomAt (W.setCell ⟨k, i, none⟩ u) base q d := by
  rcases h with h | ⟨g, cur, h1, h2, h3, h4⟩
  · exact .inl h
  · by_cases hgk : g = k
    · subst hgk
      exact .inr ⟨g, _, h1, h2, block_set h3 u, by simp [h4]⟩
    · exact .inr ⟨g, cur, h1, h2, (set_far hgk u).trans h3, h4⟩
theorem RoomAt.drew {W : World} {base : Nat} {q : Option Addr} {d : Nat} (h : RoomAt W base q d) : RoomAt W.drew base q d := h
/-- Rows that may be written over. -/
def SpAt (W : World) (base : Nat) (v : Value) : Prop := v = .slice none 0 0 ∨ ∃ g n, ∃ vs : List Value, v = .slice (some ⟨g, 0, none⟩) n vs.length ∧ n ≤ vs.length ∧ vs.length ≤ maxLen ∧ W.heap[g]? = some (.cells vs.toArray 29 (0, 0)) ∧ ∀ i (h : i < vs.length), ∃ q len d, vs[i] = .slice q len d ∧ len ≤ d ∧ d ≤ maxLen ∧ RoomAt W base q d
theorem PRows.spoil {W : World} {base : Nat} {v : Value} {l : List (List Int)} (h : PRows W base v l) : SpAt W base v := by
  obtain ⟨vs, hz, hl, hr⟩ := h
  rcases hz with ⟨h1, _⟩ | ⟨g, cap, h1, h2, h3, h4, h5⟩
  · exact .inl h1
  · refine .inr ⟨g, vs.length, vs ++ List.replicate (cap - vs.length) (.slice none 0 0), by rw [h1]; simp; omega, by simp, by simp; omega, h5, fun i hi => ?_⟩
    by_cases hlt : i < vs.length
    · obtain ⟨q, d, e1, e2⟩ := hr i (by omega)
      rw [List.getElem?_eq_getElem hlt] at e1
      rw [List.getElem_append_left hlt, Option.some.inj e1]
      rcases e2.2 with ⟨k1, k2⟩ | ⟨g', cap', cur, k1, k2, k3, k4, k5, k6, _⟩
      · injection k1 with k1 k3 k4
        subst k1 k4
        exact ⟨none, _, 0, rfl, by omega, Nat.zero_le _, .inl ⟨rfl, rfl⟩⟩
      · injection k1 with k1 _ k7
        subst k1 k7
        exact ⟨_, _, _, rfl, k4, k5, .inr ⟨g', cur, rfl, k2, k3, by rw [k6, Nat.mul_one]⟩⟩
    · rw [List.getElem_append_right (by omega), List.getElem_replicate]
      exact ⟨none, 0, 0, rfl, Nat.le_refl _, Nat.zero_le _, .inl ⟨rfl, rfl⟩⟩
set_option maxRecDepth 100000 in
set_option maxHeartbeats 4000000 in
theorem spoil_any (base : Nat) (v : Value) (w : World) (h : SpAt w base v) : Calls Tryd.prog 23 #[v] w fun e w' => (∃ u, e = .returned u) ∧ Below base w w' := by
  have hmax : maxLen = 9223372036854775807 := rfl
  rcases h with rfl | ⟨g, n, vs, rfl, hn, hm, hg, hr⟩
  · go_enter Tryd.func23, Tryd.ntmps23
    go_wp2_with fail
    go_loopw [2] (fun iv wr => iv = .int .i64 0 ∧ wr = w) (fun _ _ => 0)
    case atStart => exact ⟨rfl, rfl⟩
    case round =>
      obtain ⟨rfl, rfl⟩ := hrel
      go_wp2_with fail
      go_end0
      exact ⟨⟨_, rfl⟩, Below.refl _ _⟩
  · have HG := hid hg; have HR := hid hr
    obtain ⟨C, hC⟩ : ∃ C, vs.length = C := ⟨_, rfl⟩
    rw [hC] at hn hm ⊢
    have HC := hid hC
    clear hg hr hC
    go_enter Tryd.func23, Tryd.ntmps23
    go_wp2_with fail
    go_loopw [2] (fun iv wr => ∃ i : Nat, i ≤ C ∧ iv = .int .i64 i ∧ Below base w wr ∧ wr.heap[g]? = some (.cells vs.toArray 29 (0, 0)) ∧ ∀ i (h : i < vs.length), ∃ q len d, vs[i] = .slice q len d ∧ len ≤ d ∧ d ≤ maxLen ∧ RoomAt wr base q d) (fun iv _ => C - (intOf iv).toNat)
    case atStart => exact ⟨0, Nat.zero_le _, rfl, Below.refl _ _, HG.out, HR.out⟩
    case round =>
      obtain ⟨i, hi, rfl, hb, hgg, hrr⟩ := hrel
      rename World => wo
      by_cases hlt : i < C
      · have hiv : i < vs.length := by rw [HC.out]; exact hlt
        obtain ⟨q, len, d, hvi, hld, hdm, hroom⟩ := hrr i hiv
        have hc : wo.cell? ⟨g, i, none⟩ = some (.slice q len d) := cell_box hgg (by simp [hiv, hvi])
        have HB := hid hb; have HGG := hid hgg; have HRR := hid hrr
        clear hb hgg hrr
        rcases hroom with ⟨rfl, rfl⟩ | ⟨g2, cur, rfl, hg2, hg3, hg4⟩
        · go_wp2_with fail
          go_loopw [3] (fun kv wr => kv = .int .i64 0 ∧ wr = wo) (fun _ _ => 0)
          case atStart => exact ⟨rfl, rfl⟩
          case round =>
            obtain ⟨rfl, rfl⟩ := hrel
            go_wp2_with fail
            go_roundw
            case rel => exact ⟨i + 1, by omega, by go_num, HB.out, HGG.out, HRR.out⟩
            case measure => simp [intOf]; omega
        · have HG2 : Hid (∃ cur, wo.heap[g2]? = some (.cells cur 3 (0, 0)) ∧ cur.size = d) := hid ⟨cur, hg3, hg4⟩
          clear hg3 hg4
          go_wp2_with fail
          go_loopw [3] (fun kv wr => ∃ k : Nat, k ≤ d ∧ kv = .int .i64 k ∧ Below base w wr ∧ wr.heap[g]? = some (.cells vs.toArray 29 (0, 0)) ∧ (∃ cur, wr.heap[g2]? = some (.cells cur 3 (0, 0)) ∧ cur.size = d) ∧ ∀ i (h : i < vs.length), ∃ q len d, vs[i] = .slice q len d ∧ len ≤ d ∧ d ≤ maxLen ∧ RoomAt wr base q d) (fun kv _ => d - (intOf kv).toNat)
          case atStart => exact ⟨0, Nat.zero_le _, rfl, HB.out, HGG.out, HG2.out, HRR.out⟩
          case round =>
            obtain ⟨k, hk, rfl, hb, hgg, ⟨cr, hcr, hcs⟩, hrr⟩ := hrel
            have hcd : wr.drew.cell? ⟨g, i, none⟩ = some (.slice (some ⟨g2, 0, none⟩) len d) := cell_box (W := wr.drew) hgg (by simp [hiv, hvi])
            have hcw : wr.cell? ⟨g, i, none⟩ = some (.slice (some ⟨g2, 0, none⟩) len d) := hcd
            by_cases hkd : k < d
            · have x1 : wr.drew.cell? ⟨g2, k, none⟩ = some (cr[k]'(by omega)) := cell_box (W := wr.drew) hcr (by simp [hcs, hkd])
              have f1 : wr.drew.frozen? ⟨g2, k, none⟩ = false := free_box (W := wr.drew) hcr
              have hset := block_set (W := wr.drew) (k := k) hcr (.int .i64 (-7))
              have hgn : g ≠ g2 := fun e => by
                subst e
                rw [hgg] at hcr
                injection hcr with h1
                injection h1 with _ h1
                exact absurd h1 (by decide)
              have hgset : (wr.drew.setCell ⟨g2, k, none⟩ (.int .i64 (-7))).heap[g]? = some (.cells vs.toArray 29 (0, 0)) := (set_far hgn _).trans hgg
              have hrset : ∀ i (h : i < vs.length), ∃ q len d, vs[i] = .slice q len d ∧ len ≤ d ∧ d ≤ maxLen ∧ RoomAt (wr.drew.setCell ⟨g2, k, none⟩ (.int .i64 (-7))) base q d := fun i hi => by
                obtain ⟨q, len, d, e1, e2, e3, e4⟩ := hrr i hi
                exact ⟨q, len, d, e1, e2, e3, e4.drew.set ⟨cr, hcr⟩⟩
              have HS := hid (And.intro (hb.drew.setCell (p := ⟨g2, k, none⟩) hg2 (.int .i64 (-7))) (And.intro hgset (And.intro hset hrset)))
              have HCS : Hid ((cr.setIfInBounds k (.int .i64 (-7))).size = d) := hid (by simp [hcs])
              generalize cr[k]'(by omega) = old at x1
              clear hset hgset hrset hb hgg hcr hcs hrr
              go_wp2_with fail
              go_region
              all_goals
                go_wp2_with fail
                go_roundw
                case rel => exact ⟨k + 1, by omega, by go_num, HS.out.1, HS.out.2.1, ⟨_, HS.out.2.2.1, HCS.out⟩, HS.out.2.2.2⟩
                case measure => simp [intOf]; omega
            · have HS := hid (And.intro hb (And.intro hgg hrr))
              clear hb hgg hrr hcr hcs
              go_wp2_with fail
              go_roundw
              case rel => exact ⟨i + 1, by omega, by go_num, HS.out.1, HS.out.2.1, HS.out.2.2⟩
              case measure => simp [intOf]; omega
      · have HB := hid hb
        clear hb hgg hrr
        go_wp2_with fail
        go_end0
        exact ⟨⟨_, rfl⟩, HB.out⟩
end Go.Proofs.YteakakonjfcpmaaDoor
