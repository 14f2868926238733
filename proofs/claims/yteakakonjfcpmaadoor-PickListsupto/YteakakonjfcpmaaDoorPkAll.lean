/- All of package pick: what it hands back. -/
import Derived.Test.YteakakonjfcpmaaDoorPkPicked
namespace Go.Proofs.YteakakonjfcpmaaDoor
open Go.RowKit Go.Shelf

theorem pick_all {rs : List (List Int)} (h : rs.length ≤ 16) : ∀ j, j ≤ rs.length → pickTo ((2 ^ rs.length - 1 : Nat) : Int) rs j = rs.take j
  | 0, _ => by simp [pickTo]
  | j + 1, hj => by
    have hk : 2 ^ rs.length ≤ 65536 := Nat.pow_le_pow_right (n := 2) (by omega) h
    have hb : hasB ((2 ^ rs.length - 1 : Nat) : Int) j = true := by
      rw [hasB_bit _ _ (by omega), Nat.testBit_two_pow_sub_one]
      exact decide_eq_true (by omega)
    unfold pickTo
    rw [if_pos hb, pick_all h j (by omega), List.getD_eq_getElem?_getD, List.getElem?_eq_getElem (by omega), List.take_add_one, List.getElem?_eq_getElem (by omega)]
    rfl
theorem all_mask (k : Nat) (h : k ≤ 16) : IntKind.u32.wrap (2 ^ k) = ((2 ^ k : Nat) : Int) ∧ IntKind.u32.wrap (((2 ^ k : Nat) : Int) - 1) = ((2 ^ k - 1 : Nat) : Int) := by
  have h1 : 2 ^ k ≤ 2 ^ 16 := Nat.pow_le_pow_right (by omega) h
  have h0 := Nat.two_pow_pos k
  have h2 : ((2 ^ k : Nat) : Int) < 4294967296 := by omega
  constructor
  · rw [IntKind.wrap_u32', show ((2 : Int) ^ k) = ((2 ^ k : Nat) : Int) by simp]
    exact Int.emod_eq_of_lt (Int.natCast_nonneg _) h2
  · rw [IntKind.wrap_u32']
    omega
/-- What All hands back where rows and wants may be: its two boxes, the rows, the wants. -/
structure AllAt (X : Nat → Prop) (W : World) (br bw : Nat) (pr : Option Addr) (cr : Nat) (rs : List (List Int)) (pw : Option Addr) (cw : Nat) (ws : List Int) : Prop where
  r : W.heap[br]? = some (.cells #[.slice pr rs.length cr] 27 (0, 0))
  w : W.heap[bw]? = some (.cells #[.slice pw ws.length cw] 29 (0, 0))
  xr : X br
  xw : X bw
  rows : RowsIn X W pr rs
  ints : IntsIn X W pw ws
theorem AllAt.same {X : Nat → Prop} {W W' : World} {br bw : Nat} {pr : Option Addr} {cr : Nat} {rs : List (List Int)} {pw : Option Addr} {cw : Nat} {ws : List Int} (h : AllAt X W br bw pr cr rs pw cw ws) (hs : ∀ b, X b → W'.heap[b]? = W.heap[b]?) : AllAt X W' br bw pr cr rs pw cw ws :=
  ⟨(hs _ h.xr).trans h.r, (hs _ h.xw).trans h.w, h.xr, h.xw, h.rows.same hs, h.ints.same hs⟩
/-- How All ends. -/
def AllEnd (rs : List (List Int)) (ws : List Int) (w : World) (e : Ending) (w' : World) : Prop := Below w.heap.size w w' ∧
  ((pkE rs ws ≠ 0 ∧ e = .returned (.func (.func 37) #[] #[])) ∨
   (pkE rs ws = 0 ∧ e = .returned (.func (.func 38) #[] #[.pointer (some ⟨w.heap.size + 1, 0, none⟩), .pointer (some ⟨w.heap.size, 0, none⟩)]) ∧ ∃ pr cr pw cw, AllAt (fun b => w.heap.size ≤ b ∧ b < w'.heap.size) w' w.heap.size (w.heap.size + 1) pr cr rs pw cw ws))
theorem free_box {W : World} {b i : Nat} {cs : Array Value} {T : TypeId} (h : W.heap[b]? = some (.cells cs T (0, 0))) : W.frozen? ⟨b, i, none⟩ = false := by simp [World.frozen?, h]
theorem below_blk {W W' : World} {b : Nat} {o : Obj} (hb : Below W.heap.size W W') (h : W.heap[b]? = some o) : W'.heap[b]? = some o := (hb.block _ (Array.getElem?_eq_some_iff.1 h).1).trans h
theorem set_box {W : World} {g : Nat} {u v : Value} {t : TypeId} (h : W.heap[g]? = some (.cells #[u] t (0, 0))) : (W.setCell ⟨g, 0, none⟩ v).heap[g]? = some (.cells #[v] t (0, 0)) := block_set h v
theorem all_fin {rs : List (List Int)} {ws : List Int} {w W2 w3 w4 : World} {u1 u2 : Value} {p3 q4 : Option Addr} {c3 d4 : Nat} (hsm : rs.length ≤ maxLen) (h2 : Below w.heap.size w W2) (hs : W2.heap.size = w.heap.size + 1 + 1) (n1 : W2.heap[w.heap.size]? = some (.cells #[u1] 27 (0, 0))) (n2 : W2.heap[w.heap.size + 1]? = some (.cells #[u2] 29 (0, 0)))
    (hp : PRows w3 W2.heap.size (.slice p3 rs.length c3) rs) (hb3 : Below W2.heap.size W2 w3) (hc : CRow w4 w3.heap.size q4 d4 ws) (hb4 : Below w3.heap.size w3 w4) (w5 : World) (h5 : w5 = (w4.setCell ⟨w.heap.size, 0, none⟩ (.slice p3 rs.length c3)).setCell ⟨w.heap.size + 1, 0, none⟩ (.slice q4 ws.length d4)) :
    Below w.heap.size w w5 ∧ AllAt (fun b => w.heap.size ≤ b ∧ b < w5.heap.size) w5 w.heap.size (w.heap.size + 1) p3 c3 rs q4 d4 ws := by
  have hA := hb3.trans (hb4.mono hb3.size)
  have m1 := below_blk hA n1
  have m2 := below_blk hA n2
  have hz5 : w5.heap.size = w4.heap.size := by rw [h5]; simp [World.setCell]
  have h34 := hb4.size
  have h23 := hb3.size
  have far : ∀ b, w.heap.size + 1 < b → w5.heap[b]? = w4.heap[b]? := fun b hb => by rw [h5]; exact (set_far (by omega) _).trans (set_far (by omega) _)
  refine ⟨?_, ?_, ?_, ⟨Nat.le_refl _, by omega⟩, ⟨by omega, by omega⟩, ?_, ?_⟩
  · rw [h5]
    exact (((h2.trans (hA.mono (by omega))).setCell (p := ⟨w.heap.size, 0, none⟩) (Nat.le_refl _) _).setCell (p := ⟨w.heap.size + 1, 0, none⟩) (by show _ ≤ w.heap.size + 1; omega) _)
  · rw [h5]
    exact (set_far (by omega) _).trans (set_box m1)
  · rw [h5]
    exact set_box ((set_far (by omega) _).trans m2)
  · have h6 := (hp.rows hsm).same (w' := w5) (fun b hb => (far b (by omega)).trans (hb4.block b (by omega)))
    exact h6.mono (fun b hb => ⟨by omega, by omega⟩)
  · have h6 := hc.ints.same (w' := w5) (fun b hb => far b (by omega))
    exact h6.mono (fun b hb => ⟨by omega, by omega⟩)
set_option maxRecDepth 100000 in
set_option maxHeartbeats 8000000 in
theorem all_any (a : Option Addr) (c : Nat) (rs : List (List Int)) (b : Option Addr) (d : Nat) (ws : List Int) (w : World) (hR : RowsAt w a rs) (hW : IntsAt w b ws) :
    Calls Tryd.prog 26 #[.slice a rs.length c, .slice b ws.length d] w (AllEnd rs ws w) := by
  have b1 := alloc_below0 w (.cells #[.slice a rs.length c] 27)
  have n1 := World.alloc_heap_new w (.cells #[.slice a rs.length c] 27)
  have b2 := alloc_below0 (w.alloc (.cells #[.slice a rs.length c] 27)) (.cells #[.slice b ws.length d] 29)
  have n2 := World.alloc_heap_new (w.alloc (.cells #[.slice a rs.length c] 27)) (.cells #[.slice b ws.length d] 29)
  have hs2 : ((w.alloc (.cells #[.slice a rs.length c] 27)).alloc (.cells #[.slice b ws.length d] 29)).heap.size = w.heap.size + 1 + 1 := by simp only [World.size_alloc]
  have hs1 : (w.alloc (.cells #[.slice a rs.length c] 27)).heap.size = w.heap.size + 1 := World.size_alloc _ _
  rw [hs1] at b2 n2
  have B2 := b1.trans (b2.mono (Nat.le_succ _))
  have N1 := (b2.block w.heap.size (Nat.lt_succ_self _)).trans n1
  have HST : Hid (((w.alloc (.cells #[.slice a rs.length c] 27)).alloc (.cells #[.slice b ws.length d] 29)).heap.size = w.heap.size + 1 + 1) := hs2
  have hsm := hR.small
  have hmax : maxLen = 9223372036854775807 := rfl
  obtain ⟨W2, hW2⟩ : ∃ W2, (w.alloc (.cells #[.slice a rs.length c] 27)).alloc (.cells #[.slice b ws.length d] 29) = W2 := ⟨_, rfl⟩
  rw [hW2] at B2 N1 n2 HST
  have HCK := hid (pcheck_any a c rs b d ws W2 (hR.below B2) (hW.below B2))
  have HR := hid (hR.below B2); have HW := hid (hW.below B2); have HB2 := hid B2; have HN1 := hid N1; have HN2 := hid n2
  have HW2 := hid hW2
  clear hR hW B2 N1 n2 b1 n1 b2 hs1 hs2
  obtain ⟨R, hRR⟩ : ∃ R, pkE rs ws = R := ⟨_, rfl⟩
  rw [hRR] at HCK
  have HRR := hid hRR
  go_enter Tryd.func26, Tryd.ntmps26
  go_upto_region 1 with fail
  clear hW2 HW2 hRR
  have q1 := cell_box HN1.out (i := 0) rfl
  have q2 := cell_box HN2.out (i := 0) rfl
  go_wp2_with fail
  refine HCK.out.mono ?_
  intro e w1 h1
  obtain ⟨rfl, h2⟩ := h1
  rw [h2]
  clear h2 HCK
  by_cases h0 : R = 0
  · subst h0
    have OK := hid (pkE_ok HRR.out)
    have hf16 := OK.out.few; have hw10 := OK.out.wide
    obtain ⟨hm1, hm2⟩ := all_mask rs.length hf16
    have hd : Below W2.heap.size W2 W2.drew := (Below.refl _ _).drew
    have HPK := hid (picked_any a c rs ((2 ^ rs.length - 1 : Nat) : Int) W2.drew (HR.out.below hd) (by omega) (fun r hr => by rw [OK.out.len r hr]; omega))
    rw [pick_all hf16 _ (Nat.le_refl _), List.take_length] at HPK
    have HSZ : Hid (W2.drew.heap.size = W2.heap.size) := rfl
    generalize ((2 ^ rs.length - 1 : Nat) : Int) = mk at hm2 HPK
    generalize ((2 ^ rs.length : Nat) : Int) = mk1 at hm1 hm2
    have e1 : W2.drew.cell? ⟨w.heap.size, 0, none⟩ = some (.slice a rs.length c) := q1
    have e2 : W2.drew.cell? ⟨w.heap.size + 1, 0, none⟩ = some (.slice b ws.length d) := q2
    clear hd
    go_wp2_with fail
    go_region_with ((first
      | (go_at_call 20; refine Calls.mono HPK.out ?_; rintro e w3 ⟨v3, rfl, hp3, hb3⟩; obtain ⟨p3, c3, rfl⟩ := hp3.form; have HP3 := hid hp3; have HB3 : Hid (Below W2.heap.size W2 w3) := hid (((Below.refl _ W2).drew).trans hb3); have k1 := below_cell HB3.out _ _ q1; have k2 := below_cell HB3.out _ _ q2; have z1 := free_box (i := 0) (below_blk HB3.out HN1.out); have HCL := hid (clone_any b d ws w3 (HW.out.below HB3.out) (by omega)); clear hp3 hb3)
      | (go_at_call 36; refine Calls.mono HCL.out ?_; rintro e w4 ⟨q4, d4, rfl, hc4, hb4⟩; have HC4 := hid hc4; have HB4 := hid hb4; have HA4 : Hid (Below W2.heap.size W2 w4) := hid (HB3.out.trans (hb4.mono HB3.out.size)); have j1 := below_cell HA4.out _ _ q1; have j2 := below_cell HA4.out _ _ q2; have y1 := free_box (i := 0) (below_blk HA4.out HN1.out); have y2 := free_box (i := 0) (below_blk HA4.out HN2.out); clear hc4 hb4)
      | fail))
    all_goals
      have HFN := hid (all_fin (u1 := .slice a rs.length c) (u2 := .slice b ws.length d) hsm HB2.out HST.out HN1.out HN2.out HP3.out HB3.out HC4.out HB4.out _ rfl)
      clear HPK HCL HR HW hm1 hm2
      generalize (w4.setCell ⟨w.heap.size, 0, none⟩ (.slice p3 rs.length c3)).setCell ⟨w.heap.size + 1, 0, none⟩ (.slice q4 ws.length d4) = w5 at HFN ⊢
      go_wp2_with fail
      go_ret
      exact ⟨HFN.out.1, .inr ⟨HRR.out, rfl, _, _, _, _, HFN.out.2⟩⟩
  · have hne : (R != 0) = true := by simpa using h0
    have H0 := hid h0
    go_wp2_with fail
    go_ret
    exact ⟨HB2.out, .inl ⟨by rw [HRR.out]; exact H0.out, rfl⟩⟩
end Go.Proofs.YteakakonjfcpmaaDoor
