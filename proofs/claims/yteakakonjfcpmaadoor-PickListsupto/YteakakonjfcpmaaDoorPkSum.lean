/- has, count of package pick. -/
import Derived.Test.YteakakonjfcpmaaDoorPkRChk
import Derived.Laws.BitsAllLaws
import Derived.Lib.SmallJoins
namespace Go.Proofs.YteakakonjfcpmaaDoor
open Go.RowKit

/-- Is the row at this place in? -/
def hasB (m : Int) (i : Nat) : Bool := bits BinOp.and IntKind.u32 (m / 2 ^ min i 32) 1 != 0
set_option maxRecDepth 100000 in
theorem has_any (m : Int) (i : Nat) (w : World) : Calls Tryd.prog 28 #[.int .u32 m, .int .i64 i] w fun e w' => e = .returned (.bool (hasB m i)) ∧ w' = w := by
  go_enter Tryd.func28, Tryd.ntmps28
  go_wp2_with fail
  go_ret
  exact ⟨rfl, rfl⟩
/-- A row of numbers that a call has made. -/
def IRow (W : World) (V : Nat) (vs : List Int) : Prop := W.heap[V]? = some (.cells (vs.map (Value.int .i64)).toArray 3 (0, 0))
theorem IRow.cell {W : World} {V : Nat} {vs : List Int} (h : IRow W V vs) {j : Nat} (hj : j < vs.length) : W.cell? ⟨V, j, none⟩ = some (.int .i64 vs[j]) := by
  rw [cell_of_row W V j _ 3 (0, 0) h]
  simp [hj]
theorem IRow.free {W : World} {V : Nat} {vs : List Int} (h : IRow W V vs) (j : Nat) : W.frozen? ⟨V, j, none⟩ = false := by
  have h' : W.heap[V]? = some (.cells (vs.map (Value.int .i64)).toArray 3 (0, 0)) := h
  simp [World.frozen?, h']
theorem IRow.set {W : World} {V : Nat} {vs : List Int} (h : IRow W V vs) (j : Nat) (x : Int) : IRow (W.setCell ⟨V, j, none⟩ (.int .i64 x)) V (vs.set j x) := by
  have h1 := Joins.block_setCell (i := j) h (.int .i64 x)
  unfold IRow
  rw [h1]
  congr 2
  simp
/-- A row put to a sum, as often as told, up to a place. -/
abbrev addTo (o : Int) (vs rs : List Int) (j : Nat) : List Int := (List.zipWith (fun a b => a + o * b) vs rs).take j ++ vs.drop j
theorem addTo_len {o : Int} {vs rs : List Int} {j : Nat} (h : rs.length = vs.length) (hj : j ≤ vs.length) : (addTo o vs rs j).length = vs.length := by
  simp only [List.length_append, List.length_take, List.length_zipWith, List.length_drop]
  omega
theorem addTo_at {o : Int} {vs rs : List Int} {j : Nat} (h : rs.length = vs.length) (hj : j < vs.length) (h' : j < (addTo o vs rs j).length) : (addTo o vs rs j)[j] = vs[j] := by
  rw [List.getElem_append_right (by simp; omega)]
  simp only [List.length_take, List.length_zipWith, List.getElem_drop]
  congr 1
  omega
theorem addTo_step {o : Int} {vs rs : List Int} {j : Nat} (h : rs.length = vs.length) (hj : j < vs.length) : (addTo o vs rs j).set j (vs[j] + o * rs[j]) = addTo o vs rs (j + 1) := by
  refine List.ext_getElem (by rw [List.length_set, addTo_len h (by omega), addTo_len h (by omega)]) (fun i h1 h2 => ?_)
  rw [List.length_set, addTo_len h (by omega)] at h1
  rw [List.getElem_set]
  by_cases hij : j = i
  · subst hij
    rw [if_pos rfl, List.getElem_append_left (by simp; omega)]
    simp
  · rw [if_neg hij]
    by_cases hlt : i < j
    · rw [List.getElem_append_left (by simp; omega), List.getElem_append_left (by simp; omega)]
      simp
    · rw [List.getElem_append_right (by simp; omega), List.getElem_append_right (by simp; omega)]
      simp only [List.length_take, List.length_zipWith, List.getElem_drop]
      congr 1
      omega
set_option maxRecDepth 100000 in
set_option maxHeartbeats 2000000 in
/-- count: a row put to a sum that the caller has made. -/
theorem count_any (B V cap : Nat) (vs : List Int) (p : Option Addr) (c : Nat) (rs : List Int) (o : Int) (w : World) (hV : IRow w V vs) (hB : B ≤ V) (hR : ∀ w', Below B w w' → IntsAt w' p rs) (hl : rs.length = vs.length) (hn : vs.length ≤ 1048576) (ho : o = 1 ∨ o = -1)
    (hr : ∀ x ∈ rs, 0 ≤ x ∧ x ≤ 1048576) (hv : ∀ x ∈ vs, -1099511627776 ≤ x ∧ x ≤ 1099511627776) :
    Calls Tryd.prog 29 #[.slice (some ⟨V, 0, none⟩) vs.length cap, .slice p rs.length c, .int .i64 o] w fun e w' => (∃ u, e = .returned u) ∧ IRow w' V (List.zipWith (fun a b => a + o * b) vs rs) ∧ Below B w w' := by
  have HR := hid hR; have HV := hid hV; have Hr := hid hr; have Hv := hid hv
  have hmax : maxLen = 9223372036854775807 := rfl
  rw [hl]
  clear hR hV hr hv
  go_enter Tryd.func29, Tryd.ntmps29
  go_wp2_with fail
  go_loopw [10] (fun i wr => ∃ j : Nat, j ≤ vs.length ∧ i = .int .i64 j ∧ IRow wr V (addTo o vs rs j) ∧ Below B w wr) (fun i _ => vs.length - (intOf i).toNat)
  case atStart => exact ⟨0, Nat.zero_le _, rfl, by show IRow w V (List.take 0 _ ++ List.drop 0 vs); rw [List.take_zero, List.nil_append, List.drop_zero]; exact HV.out, Below.refl _ _⟩
  case round =>
    obtain ⟨j, hj, rfl, hI, hb⟩ := hrel
    have HI := hid hI; have HB := hid hb
    by_cases hlt : j < vs.length
    · obtain ⟨b, q, rfl, hc⟩ := (HR.out wr hb).cells j (by omega)
      have hd := hI.cell (j := j) (by rw [addTo_len hl (by omega)]; exact hlt)
      rw [addTo_at hl hlt] at hd
      have hfr := hI.free j
      obtain ⟨x, hx⟩ : ∃ x, rs[j]'(by omega) = x := ⟨_, rfl⟩
      obtain ⟨y, hy⟩ : ∃ y, vs[j] = y := ⟨_, rfl⟩
      have b1 := Hr.out (rs[j]'(by omega)) (List.getElem_mem _)
      have b2 := Hv.out vs[j] (List.getElem_mem _)
      have hst := hI.set j (vs[j] + o * rs[j]'(by omega))
      rw [addTo_step hl hlt] at hst
      rw [hx] at hc b1 hst
      rw [hy] at hd b2 hst
      have HS := hid hst
      have hm1 : IntKind.i64.wrap (o * x) = o * x := IntWalk.i64_in _ (by rcases ho with rfl | rfl <;> constructor <;> omega)
      have hm2 : IntKind.i64.wrap (y + o * x) = y + o * x := IntWalk.i64_in _ (by rcases ho with rfl | rfl <;> constructor <;> omega)
      clear hst hI hb hx hy
      go_wp2_with fail
      go_roundw
      case rel => exact ⟨j + 1, by omega, by go_num, HS.out, HB.out.setCell (p := ⟨V, j, none⟩) hB _⟩
      case measure => simp [intOf]; omega
    · have e1 : j = vs.length := by omega
      have hz : addTo o vs rs j = List.zipWith (fun a b => a + o * b) vs rs := by
        unfold addTo
        rw [e1, List.drop_length, List.append_nil, List.take_of_length_le (by simp; omega)]
      rw [hz] at HI
      clear hz hI hb
      go_wp2
      go_end0
      exact ⟨⟨_, rfl⟩, HI.out, HB.out⟩
end Go.Proofs.YteakakonjfcpmaaDoor
