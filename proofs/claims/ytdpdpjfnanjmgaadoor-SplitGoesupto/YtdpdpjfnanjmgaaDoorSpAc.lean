/- spoil: which blocks it writes to. -/
import Derived.BigQuiet
import Derived.Test.YtdpdpjfnanjmgaaDoorSpT
import Derived.Test.YtdpdpjfnanjmgaaDoorSpE
namespace Go.Proofs.YtdpdpjfnanjmgaaDoor
open Go.RowKit Go.Shelf

/-- A row's room, in a block from base on. -/
def RoomX (W : World) (X : Nat → Prop) (q : Option Addr) (d : Nat) : Prop := (q = none ∧ d = 0) ∨ ∃ g cur, q = some ⟨g, 0, none⟩ ∧ X g ∧ W.heap[g]? = some (.cells cur 3 (0, 0)) ∧ cur.size = d
theorem RoomX.set {W : World} {X : Nat → Prop} {q : Option Addr} {d : Nat} (h : RoomX W X q d) {k i : Nat} {u : Value} (hk : ∃ cur, W.heap[k]? = some (.cells cur 3 (0, 0))) : RoomX (W.setCell ⟨k, i, none⟩ u) X q d := by
  rcases h with h | ⟨g, cur, h1, h2, h3, h4⟩
  · exact .inl h
  · by_cases hgk : g = k
    · subst hgk
      exact .inr ⟨g, _, h1, h2, block_set h3 u, by simp [h4]⟩
    · exact .inr ⟨g, cur, h1, h2, (set_far hgk u).trans h3, h4⟩
theorem RoomX.drew {W : World} {X : Nat → Prop} {q : Option Addr} {d : Nat} (h : RoomX W X q d) : RoomX W.drew X q d := h
/-- Rows that may be written over. -/
def SpX (W : World) (X : Nat → Prop) (v : Value) : Prop := v = .slice none 0 0 ∨ ∃ g n, ∃ vs : List Value, v = .slice (some ⟨g, 0, none⟩) n vs.length ∧ n ≤ vs.length ∧ vs.length ≤ maxLen ∧ W.heap[g]? = some (.cells vs.toArray 23 (0, 0)) ∧ ∀ i (h : i < vs.length), ∃ q len d, vs[i] = .slice q len d ∧ len ≤ d ∧ d ≤ maxLen ∧ RoomX W X q d
theorem WayAt.spoilX {W : World} {base g K T : Nat} {rows : List (List Nat)} (h : WayAt W base g K T rows) (hT : rows.length = T) (hm : T ≤ maxLen) : SpX W (fun b => base ≤ b ∧ b < W.heap.size) (.slice (some ⟨g, 0, none⟩) T T) := by
  obtain ⟨cur, h1, h2, -, h4⟩ := h.blk
  refine .inr ⟨g, T, cur.toList, by rw [Array.length_toList, h2], by rw [Array.length_toList, h2]; exact Nat.le_refl _, by rw [Array.length_toList, h2]; exact hm, by rw [Array.toArray_toList]; exact h1, fun i hi => ?_⟩
  rw [Array.length_toList, h2] at hi
  obtain ⟨hk, p, c, k1, k2, -⟩ := h4 i (by omega)
  have e1 : cur.toList[i]'(by rw [Array.length_toList, h2]; exact hi) = .slice p K c := by
    rw [Array.getElem_toList]
    exact Option.some.inj ((Array.getElem?_eq_getElem (by rw [h2]; exact hi)).symm.trans k1)
  have hK : (up rows[i]).length = K := by rw [up_len]; exact hk
  rw [e1]
  rcases k2.2 with ⟨m1, m2⟩ | ⟨g', cap', cr, m1, m3, m4, m5, m6, m7, _⟩
  · injection m1 with m1 _ m8
    subst m1 m8
    exact ⟨none, K, 0, rfl, by omega, Nat.zero_le _, .inl ⟨rfl, rfl⟩⟩
  · injection m1 with m1 _ m8
    subst m1 m8
    exact ⟨_, K, _, rfl, by omega, m6, .inr ⟨g', cr, rfl, ⟨m3, (Array.getElem?_eq_some_iff.1 m4).1⟩, m4, by rw [m7, Nat.mul_one]⟩⟩
theorem SpX.mono {W W' : World} {X : Nat → Prop} {v : Value} (h : SpX W X v) (hb : Below W.heap.size W W') : SpX W' X v := by
  rcases h with h | ⟨g, n, vs, h1, h2, h3, h4, h5⟩
  · exact .inl h
  · refine .inr ⟨g, n, vs, h1, h2, h3, (hb.block _ (Array.getElem?_eq_some_iff.1 h4).1).trans h4, fun i hi => ?_⟩
    obtain ⟨q, len, d, k1, k2, k3, k4⟩ := h5 i hi
    refine ⟨q, len, d, k1, k2, k3, ?_⟩
    rcases k4 with k4 | ⟨g2, cur, m1, m2, m3, m4⟩
    · exact .inl k4
    · exact .inr ⟨g2, cur, m1, m2, (hb.block _ (Array.getElem?_eq_some_iff.1 m3).1).trans m3, m4⟩
theorem freeB {W : World} {b i : Nat} {t : TypeId} {cs : Array Value} (h : W.heap[b]? = some (.cells cs t (0, 0))) : W.frozen? ⟨b, i, none⟩ = false := by simp [World.frozen?, h]
set_option maxRecDepth 100000 in
set_option maxHeartbeats 4000000 in
theorem spoilX_any (X : Nat → Prop) (v : Value) (w : World) (h : SpX w X v) : Calls Tryd.prog 16 #[v] w fun e w' => (∃ u, e = .returned u) ∧ Fr X w w' := by
  have hmax : maxLen = 9223372036854775807 := rfl
  rcases h with rfl | ⟨g, n, vs, rfl, hn, hm, hg, hr⟩
  · go_enter Tryd.func16, Tryd.ntmps16
    go_wp2_with fail
    go_loopw [2] (fun iv wr => iv = .int .i64 0 ∧ wr = w) (fun _ _ => 0)
    case atStart => exact ⟨rfl, rfl⟩
    case round =>
      obtain ⟨rfl, rfl⟩ := hrel
      go_wp2_with fail
      go_end0
      exact ⟨⟨_, rfl⟩, Fr.refl _ _⟩
  · have HG := hid hg; have HR := hid hr
    obtain ⟨C, hC⟩ : ∃ C, vs.length = C := ⟨_, rfl⟩
    rw [hC] at hn hm ⊢
    have HC := hid hC
    clear hg hr hC
    go_enter Tryd.func16, Tryd.ntmps16
    go_wp2_with fail
    go_loopw [2] (fun iv wr => ∃ i : Nat, i ≤ n ∧ iv = .int .i64 i ∧ Fr X w wr ∧ wr.heap[g]? = some (.cells vs.toArray 23 (0, 0)) ∧ ∀ i (h : i < vs.length), ∃ q len d, vs[i] = .slice q len d ∧ len ≤ d ∧ d ≤ maxLen ∧ RoomX wr X q d) (fun iv _ => n - (intOf iv).toNat)
    case atStart => exact ⟨0, Nat.zero_le _, rfl, Fr.refl _ _, HG.out, HR.out⟩
    case round =>
      obtain ⟨i, hi, rfl, hb, hgg, hrr⟩ := hrel
      rename World => wo
      by_cases hlt : i < n
      · have hiv : i < vs.length := by rw [HC.out]; omega
        obtain ⟨q, len, d, hvi, hld, hdm, hroom⟩ := hrr i hiv
        have hc : wo.cell? ⟨g, i, none⟩ = some (.slice q len d) := cell_box hgg (by simp [hiv, hvi])
        have HB := hid hb; have HGG := hid hgg; have HRR := hid hrr
        clear hb hgg hrr
        rcases hroom with ⟨rfl, rfl⟩ | ⟨g2, cur, rfl, hg2, hg3, hg4⟩
        · go_wp2_with fail
          go_loopw [3] (fun kv wr => kv = .int .i64 0 ∧ wr = wo) (fun _ _ => 0)
          case atStart => exact ⟨rfl, rfl⟩
          case round =>
            obtain ⟨rfl, rfl⟩ := hrel
            go_wp2_with fail
            go_roundw
            case rel => exact ⟨i + 1, by omega, by go_num, HB.out, HGG.out, HRR.out⟩
            case measure => simp [intOf]; omega
        · have HG2 : Hid (∃ cur, wo.heap[g2]? = some (.cells cur 3 (0, 0)) ∧ cur.size = d) := hid ⟨cur, hg3, hg4⟩
          clear hg3 hg4
          go_wp2_with fail
          go_loopw [3] (fun kv wr => ∃ k : Nat, k ≤ d ∧ kv = .int .i64 k ∧ Fr X w wr ∧ wr.heap[g]? = some (.cells vs.toArray 23 (0, 0)) ∧ (∃ cur, wr.heap[g2]? = some (.cells cur 3 (0, 0)) ∧ cur.size = d) ∧ ∀ i (h : i < vs.length), ∃ q len d, vs[i] = .slice q len d ∧ len ≤ d ∧ d ≤ maxLen ∧ RoomX wr X q d) (fun kv _ => d - (intOf kv).toNat)
          case atStart => exact ⟨0, Nat.zero_le _, rfl, HB.out, HGG.out, HG2.out, HRR.out⟩
          case round =>
            obtain ⟨k, hk, rfl, hb, hgg, ⟨cr, hcr, hcs⟩, hrr⟩ := hrel
            have hcd : wr.drew.cell? ⟨g, i, none⟩ = some (.slice (some ⟨g2, 0, none⟩) len d) := cell_box (W := wr.drew) hgg (by simp [hiv, hvi])
            have hcw : wr.cell? ⟨g, i, none⟩ = some (.slice (some ⟨g2, 0, none⟩) len d) := hcd
            by_cases hkd : k < d
            · have x1 : wr.drew.cell? ⟨g2, k, none⟩ = some (cr[k]'(by omega)) := cell_box (W := wr.drew) hcr (by simp [hcs, hkd])
              have f1 : wr.drew.frozen? ⟨g2, k, none⟩ = false := freeB (W := wr.drew) hcr
              have hset := block_set (W := wr.drew) (k := k) hcr (.int .i64 (-7))
              have hgn : g ≠ g2 := fun e => by
                subst e
                rw [hgg] at hcr
                injection hcr with h1
                injection h1 with _ h1
                exact absurd h1 (by decide)
              have hgset : (wr.drew.setCell ⟨g2, k, none⟩ (.int .i64 (-7))).heap[g]? = some (.cells vs.toArray 23 (0, 0)) := (set_far hgn _).trans hgg
              have hrset : ∀ i (h : i < vs.length), ∃ q len d, vs[i] = .slice q len d ∧ len ≤ d ∧ d ≤ maxLen ∧ RoomX (wr.drew.setCell ⟨g2, k, none⟩ (.int .i64 (-7))) X q d := fun i hi => by
                obtain ⟨q, len, d, e1, e2, e3, e4⟩ := hrr i hi
                exact ⟨q, len, d, e1, e2, e3, e4.drew.set ⟨cr, hcr⟩⟩
              have HS := hid (And.intro (hb.drew.trans ((fr_set wr.drew g2 k (.int .i64 (-7))).mono (fun q hq => by rw [hq]; exact hg2))) (And.intro hgset (And.intro hset hrset)))
              have HCS : Hid ((cr.setIfInBounds k (.int .i64 (-7))).size = d) := hid (by simp [hcs])
              generalize cr[k]'(by omega) = old at x1
              clear hset hgset hrset hb hgg hcr hcs hrr
              go_wp2_with fail
              go_region
              all_goals
                go_wp2_with fail
                go_roundw
                case rel => exact ⟨k + 1, by omega, by go_num, HS.out.1, HS.out.2.1, ⟨_, HS.out.2.2.1, HCS.out⟩, HS.out.2.2.2⟩
                case measure => simp [intOf]; omega
            · have HS := hid (And.intro hb (And.intro hgg hrr))
              clear hb hgg hrr hcr hcs
              go_wp2_with fail
              go_roundw
              case rel => exact ⟨i + 1, by omega, by go_num, HS.out.1, HS.out.2.1, HS.out.2.2⟩
              case measure => simp [intOf]; omega
      · have HB := hid hb
        clear hb hgg hrr
        go_wp2_with fail
        go_end0
        exact ⟨⟨_, rfl⟩, HB.out⟩
end Go.Proofs.YtdpdpjfnanjmgaaDoor
