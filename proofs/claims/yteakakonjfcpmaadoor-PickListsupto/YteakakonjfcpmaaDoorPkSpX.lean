/- spoil: which blocks it writes to. -/
import Derived.Test.YteakakonjfcpmaaDoorPkLn
namespace Go.Proofs.YteakakonjfcpmaaDoor
open Go.RowKit Go.Shelf

/-- A row's room, in a block from base on. -/
def RoomX (W : World) (X : Nat → Prop) (q : Option Addr) (d : Nat) : Prop := (q = none ∧ d = 0) ∨ ∃ g cur, q = some ⟨g, 0, none⟩ ∧ X g ∧ W.heap[g]? = some (.cells cur 3 (0, 0)) ∧ cur.size = d
theorem RoomX.set {W : World} {X : Nat → Prop} {q : Option Addr} {d : Nat} (h : RoomX W X q d) {k i : Nat} {u : Value} (hk : ∃ cur, W.heap[k]? = some (.cells cur 3 (0, 0))) : RoomX (W.setCell ⟨k, i, none⟩ u) X q d := by
  rcases h with h | ⟨g, cur, h1, h2, h3, h4⟩
  · exact .inl h
  · by_cases hgk : g = k
    · subst hgk
      exact .inr ⟨g, _, h1, h2, block_set h3 u, by simp [h4]⟩
    · exact .inr ⟨g, cur, h1, h2, (set_far hgk u).trans h3, h4⟩
theorem RoomX.drew {W : World} {X : Nat → Prop} {q : Option Addr} {d : Nat} (h : RoomX W X q d) : RoomX W.drew X q d := h
/-- Rows that may be written over. -/
def SpX (W : World) (X : Nat → Prop) (v : Value) : Prop := v = .slice none 0 0 ∨ ∃ g n, ∃ vs : List Value, v = .slice (some ⟨g, 0, none⟩) n vs.length ∧ n ≤ vs.length ∧ vs.length ≤ maxLen ∧ W.heap[g]? = some (.cells vs.toArray 29 (0, 0)) ∧ ∀ i (h : i < vs.length), ∃ q len d, vs[i] = .slice q len d ∧ len ≤ d ∧ d ≤ maxLen ∧ RoomX W X q d
theorem LentAt.spoilX {W : World} {base g : Nat} {rs : List (List Int)} (h : LentAt W base g rs) : SpX W (fun b => base ≤ b ∧ b < W.heap.size) (.slice (some ⟨g, 0, none⟩) rs.length (rs.length + 1)) := by
  obtain ⟨vs, gm, h1, h2, h3, h4, h5⟩ := h.out
  have hmax : maxLen = 9223372036854775807 := rfl
  have hsm := h.small
  refine .inr ⟨g, rs.length, vs ++ [.slice (some ⟨gm, 0, none⟩) 1 1], by rw [List.length_append, h1]; rfl, by simp; omega, by simp; omega, h2, fun i hi => ?_⟩
  by_cases hlt : i < vs.length
  · obtain ⟨gi, k1, k2, k3⟩ := h5 i (by omega)
    rw [List.getElem?_eq_getElem hlt] at k1
    have hrs := h.rowS _ (List.getElem_mem (show i < rs.length by omega))
    rw [List.getElem_append_left hlt, Option.some.inj k1]
    exact ⟨_, _, _, rfl, by omega, by omega, .inr ⟨gi, _, rfl, ⟨k2, (Array.getElem?_eq_some_iff.1 k3).1⟩, k3, by simp [cAll_len]⟩⟩
  · have e1 : i = vs.length := by simp at hi; omega
    subst e1
    rw [List.getElem_append_right (by omega)]
    simp only [Nat.sub_self, List.getElem_singleton]
    exact ⟨_, _, _, rfl, Nat.le_refl _, by omega, .inr ⟨gm, _, rfl, ⟨h3, (Array.getElem?_eq_some_iff.1 h4).1⟩, h4, rfl⟩⟩
theorem SpX.mono {W W' : World} {X : Nat → Prop} {v : Value} (h : SpX W X v) (hb : Below W.heap.size W W') : SpX W' X v := by
  rcases h with h | ⟨g, n, vs, h1, h2, h3, h4, h5⟩
  · exact .inl h
  · refine .inr ⟨g, n, vs, h1, h2, h3, below_blk hb h4, fun i hi => ?_⟩
    obtain ⟨q, len, d, k1, k2, k3, k4⟩ := h5 i hi
    refine ⟨q, len, d, k1, k2, k3, ?_⟩
    rcases k4 with k4 | ⟨g2, cur, m1, m2, m3, m4⟩
    · exact .inl k4
    · exact .inr ⟨g2, cur, m1, m2, below_blk hb m3, m4⟩
set_option maxRecDepth 100000 in
set_option maxHeartbeats 4000000 in
theorem spoilX_any (X : Nat → Prop) (v : Value) (w : World) (h : SpX w X v) : Calls Tryd.prog 23 #[v] w fun e w' => (∃ u, e = .returned u) ∧ Fr X w w' := by
  have hmax : maxLen = 9223372036854775807 := rfl
  rcases h with rfl | ⟨g, n, vs, rfl, hn, hm, hg, hr⟩
  · go_enter Tryd.func23, Tryd.ntmps23
    go_wp2_with fail
    go_loopw [2] (fun iv wr => iv = .int .i64 0 ∧ wr = w) (fun _ _ => 0)
    case atStart => exact ⟨rfl, rfl⟩
    case round =>
      obtain ⟨rfl, rfl⟩ := hrel
      go_wp2_with fail
      go_end0
      exact ⟨⟨_, rfl⟩, Fr.refl _ _⟩
  · have HG := hid hg; have HR := hid hr
    obtain ⟨C, hC⟩ : ∃ C, vs.length = C := ⟨_, rfl⟩
    rw [hC] at hn hm ⊢
    have HC := hid hC
    clear hg hr hC
    go_enter Tryd.func23, Tryd.ntmps23
    go_wp2_with fail
    go_loopw [2] (fun iv wr => ∃ i : Nat, i ≤ C ∧ iv = .int .i64 i ∧ Fr X w wr ∧ wr.heap[g]? = some (.cells vs.toArray 29 (0, 0)) ∧ ∀ i (h : i < vs.length), ∃ q len d, vs[i] = .slice q len d ∧ len ≤ d ∧ d ≤ maxLen ∧ RoomX wr X q d) (fun iv _ => C - (intOf iv).toNat)
    case atStart => exact ⟨0, Nat.zero_le _, rfl, Fr.refl _ _, HG.out, HR.out⟩
    case round =>
      obtain ⟨i, hi, rfl, hb, hgg, hrr⟩ := hrel
      rename World => wo
      by_cases hlt : i < C
      · have hiv : i < vs.length := by rw [HC.out]; exact hlt
        obtain ⟨q, len, d, hvi, hld, hdm, hroom⟩ := hrr i hiv
        have hc : wo.cell? ⟨g, i, none⟩ = some (.slice q len d) := cell_box hgg (by simp [hiv, hvi])
        have HB := hid hb; have HGG := hid hgg; have HRR := hid hrr
        clear hb hgg hrr
        rcases hroom with ⟨rfl, rfl⟩ | ⟨g2, cur, rfl, hg2, hg3, hg4⟩
        · go_wp2_with fail
          go_loopw [3] (fun kv wr => kv = .int .i64 0 ∧ wr = wo) (fun _ _ => 0)
          case atStart => exact ⟨rfl, rfl⟩
          case round =>
            obtain ⟨rfl, rfl⟩ := hrel
            go_wp2_with fail
            go_roundw
            case rel => exact ⟨i + 1, by omega, by go_num, HB.out, HGG.out, HRR.out⟩
            case measure => simp [intOf]; omega
        · have HG2 : Hid (∃ cur, wo.heap[g2]? = some (.cells cur 3 (0, 0)) ∧ cur.size = d) := hid ⟨cur, hg3, hg4⟩
          clear hg3 hg4
          go_wp2_with fail
          go_loopw [3] (fun kv wr => ∃ k : Nat, k ≤ d ∧ kv = .int .i64 k ∧ Fr X w wr ∧ wr.heap[g]? = some (.cells vs.toArray 29 (0, 0)) ∧ (∃ cur, wr.heap[g2]? = some (.cells cur 3 (0, 0)) ∧ cur.size = d) ∧ ∀ i (h : i < vs.length), ∃ q len d, vs[i] = .slice q len d ∧ len ≤ d ∧ d ≤ maxLen ∧ RoomX wr X q d) (fun kv _ => d - (intOf kv).toNat)
          case atStart => exact ⟨0, Nat.zero_le _, rfl, HB.out, HGG.out, HG2.out, HRR.out⟩
          case round =>
            obtain ⟨k, hk, rfl, hb, hgg, ⟨cr, hcr, hcs⟩, hrr⟩ := hrel
            have hcd : wr.drew.cell? ⟨g, i, none⟩ = some (.slice (some ⟨g2, 0, none⟩) len d) := cell_box (W := wr.drew) hgg (by simp [hiv, hvi])
            have hcw : wr.cell? ⟨g, i, none⟩ = some (.slice (some ⟨g2, 0, none⟩) len d) := hcd
            by_cases hkd : k < d
            · have x1 : wr.drew.cell? ⟨g2, k, none⟩ = some (cr[k]'(by omega)) := cell_box (W := wr.drew) hcr (by simp [hcs, hkd])
              have f1 : wr.drew.frozen? ⟨g2, k, none⟩ = false := free_box (W := wr.drew) hcr
              have hset := block_set (W := wr.drew) (k := k) hcr (.int .i64 (-7))
              have hgn : g ≠ g2 := fun e => by
                subst e
                rw [hgg] at hcr
                injection hcr with h1
                injection h1 with _ h1
                exact absurd h1 (by decide)
              have hgset : (wr.drew.setCell ⟨g2, k, none⟩ (.int .i64 (-7))).heap[g]? = some (.cells vs.toArray 29 (0, 0)) := (set_far hgn _).trans hgg
              have hrset : ∀ i (h : i < vs.length), ∃ q len d, vs[i] = .slice q len d ∧ len ≤ d ∧ d ≤ maxLen ∧ RoomX (wr.drew.setCell ⟨g2, k, none⟩ (.int .i64 (-7))) X q d := fun i hi => by
                obtain ⟨q, len, d, e1, e2, e3, e4⟩ := hrr i hi
                exact ⟨q, len, d, e1, e2, e3, e4.drew.set ⟨cr, hcr⟩⟩
              have HS := hid (And.intro (hb.drew.trans ((fr_set wr.drew g2 k (.int .i64 (-7))).mono (fun q hq => by rw [hq]; exact hg2))) (And.intro hgset (And.intro hset hrset)))
              have HCS : Hid ((cr.setIfInBounds k (.int .i64 (-7))).size = d) := hid (by simp [hcs])
              generalize cr[k]'(by omega) = old at x1
              clear hset hgset hrset hb hgg hcr hcs hrr
              go_wp2_with fail
              go_region
              all_goals
                go_wp2_with fail
                go_roundw
                case rel => exact ⟨k + 1, by omega, by go_num, HS.out.1, HS.out.2.1, ⟨_, HS.out.2.2.1, HCS.out⟩, HS.out.2.2.2⟩
                case measure => simp [intOf]; omega
            · have HS := hid (And.intro hb (And.intro hgg hrr))
              clear hb hgg hrr hcr hcs
              go_wp2_with fail
              go_roundw
              case rel => exact ⟨i + 1, by omega, by go_num, HS.out.1, HS.out.2.1, HS.out.2.2⟩
              case measure => simp [intOf]; omega
      · have HB := hid hb
        clear hb hgg hrr
        go_wp2_with fail
        go_end0
        exact ⟨⟨_, rfl⟩, HB.out⟩
end Go.Proofs.YteakakonjfcpmaaDoor
