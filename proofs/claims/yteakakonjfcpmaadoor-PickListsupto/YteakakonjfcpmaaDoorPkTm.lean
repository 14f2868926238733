/- tooMuch; count, and what it leaves alone; lists of numbers in blocks that are known. -/
import Derived.Test.YteakakonjfcpmaaDoorPkFr
namespace Go.Proofs.YteakakonjfcpmaaDoor
open Go.RowKit Go.Shelf

/-- Numbers in memory, in blocks of a kind. -/
structure IntsIn (X : Nat → Prop) (w : World) (a : Option Addr) (ns : List Int) : Prop where
  small : ns.length ≤ maxLen
  cells : ∀ i (h : i < ns.length), ∃ b o, a = some ⟨b, o, none⟩ ∧ X b ∧ w.cell? ⟨b, o + i, none⟩ = some (.int .i64 ns[i])
theorem IntsIn.at {X : Nat → Prop} {w : World} {a : Option Addr} {ns : List Int} (h : IntsIn X w a ns) : IntsAt w a ns := ⟨h.small, fun i hi => let ⟨b, o, h1, _, h3⟩ := h.cells i hi; ⟨b, o, h1, h3⟩⟩
theorem IntsIn.same {X : Nat → Prop} {w w' : World} {a : Option Addr} {ns : List Int} (h : IntsIn X w a ns) (hs : ∀ b, X b → w'.heap[b]? = w.heap[b]?) : IntsIn X w' a ns :=
  ⟨h.small, fun i hi => let ⟨b, o, h1, h2, h3⟩ := h.cells i hi; ⟨b, o, h1, h2, (cell_same (a := ⟨b, o + i, none⟩) (hs b h2)).trans h3⟩⟩
theorem IntsIn.mono {X Y : Nat → Prop} {w : World} {a : Option Addr} {ns : List Int} (h : IntsIn X w a ns) (hs : ∀ b, X b → Y b) : IntsIn Y w a ns :=
  ⟨h.small, fun i hi => let ⟨b, o, h1, h2, h3⟩ := h.cells i hi; ⟨b, o, h1, hs b h2, h3⟩⟩
theorem IntsAt.in {w : World} {a : Option Addr} {ns : List Int} (h : IntsAt w a ns) : IntsIn (fun b => b < w.heap.size) w a ns :=
  ⟨h.small, fun i hi => let ⟨b, o, h1, h2⟩ := h.cells i hi; ⟨b, o, h1, World.block_lt_of_cell? w _ h2, h2⟩⟩
/-- Rows in memory, in blocks of a kind. -/
structure RowsIn (X : Nat → Prop) (w : World) (a : Option Addr) (rs : List (List Int)) : Prop where
  small : rs.length ≤ maxLen
  cells : ∀ i (h : i < rs.length), ∃ b o p c, a = some ⟨b, o, none⟩ ∧ X b ∧ w.cell? ⟨b, o + i, none⟩ = some (.slice p rs[i].length c) ∧ IntsIn X w p rs[i]
theorem RowsIn.at {X : Nat → Prop} {w : World} {a : Option Addr} {rs : List (List Int)} (h : RowsIn X w a rs) : RowsAt w a rs := ⟨h.small, fun i hi => let ⟨b, o, p, c, h1, _, h3, h4⟩ := h.cells i hi; ⟨b, o, p, c, h1, h3, h4.at⟩⟩
theorem RowsIn.same {X : Nat → Prop} {w w' : World} {a : Option Addr} {rs : List (List Int)} (h : RowsIn X w a rs) (hs : ∀ b, X b → w'.heap[b]? = w.heap[b]?) : RowsIn X w' a rs :=
  ⟨h.small, fun i hi => let ⟨b, o, p, c, h1, h2, h3, h4⟩ := h.cells i hi; ⟨b, o, p, c, h1, h2, (cell_same (a := ⟨b, o + i, none⟩) (hs b h2)).trans h3, h4.same hs⟩⟩
theorem RowsIn.mono {X Y : Nat → Prop} {w : World} {a : Option Addr} {rs : List (List Int)} (h : RowsIn X w a rs) (hs : ∀ b, X b → Y b) : RowsIn Y w a rs :=
  ⟨h.small, fun i hi => let ⟨b, o, p, c, h1, h2, h3, h4⟩ := h.cells i hi; ⟨b, o, p, c, h1, hs b h2, h3, h4.mono hs⟩⟩
set_option maxRecDepth 100000 in
set_option maxHeartbeats 2000000 in
/-- count: only the sum's block is written. -/
theorem count_fr (V cap : Nat) (vs : List Int) (p : Option Addr) (c : Nat) (rs : List Int) (o : Int) (w : World) (hV : IRow w V vs) (hR : ∀ w', Fr (fun b => b = V) w w' → IntsAt w' p rs) (hl : rs.length = vs.length) (hn : vs.length ≤ 1048576) (ho : o = 1 ∨ o = -1)
    (hr : ∀ x ∈ rs, 0 ≤ x ∧ x ≤ 1048576) (hv : ∀ x ∈ vs, -1099511627776 ≤ x ∧ x ≤ 1099511627776) :
    Calls Tryd.prog 29 #[.slice (some ⟨V, 0, none⟩) vs.length cap, .slice p rs.length c, .int .i64 o] w fun e w' => (∃ u, e = .returned u) ∧ IRow w' V (List.zipWith (fun a b => a + o * b) vs rs) ∧ Fr (fun b => b = V) w w' := by
  have HR := hid hR; have HV := hid hV; have Hr := hid hr; have Hv := hid hv
  have hmax : maxLen = 9223372036854775807 := rfl
  rw [hl]
  clear hR hV hr hv
  go_enter Tryd.func29, Tryd.ntmps29
  go_wp2_with fail
  go_loopw [10] (fun i wr => ∃ j : Nat, j ≤ vs.length ∧ i = .int .i64 j ∧ IRow wr V (addTo o vs rs j) ∧ Fr (fun b => b = V) w wr) (fun i _ => vs.length - (intOf i).toNat)
  case atStart => exact ⟨0, Nat.zero_le _, rfl, by show IRow w V (List.take 0 _ ++ List.drop 0 vs); rw [List.take_zero, List.nil_append, List.drop_zero]; exact HV.out, Fr.refl _ _⟩
  case round =>
    obtain ⟨j, hj, rfl, hI, hb⟩ := hrel
    have HI := hid hI; have HB := hid hb
    by_cases hlt : j < vs.length
    · obtain ⟨b, q, rfl, hc⟩ := (HR.out wr hb).cells j (by omega)
      have hd := hI.cell (j := j) (by rw [addTo_len hl (by omega)]; exact hlt)
      rw [addTo_at hl hlt] at hd
      have hfr := hI.free j
      obtain ⟨x, hx⟩ : ∃ x, rs[j]'(by omega) = x := ⟨_, rfl⟩
      obtain ⟨y, hy⟩ : ∃ y, vs[j] = y := ⟨_, rfl⟩
      have b1 := Hr.out (rs[j]'(by omega)) (List.getElem_mem _)
      have b2 := Hv.out vs[j] (List.getElem_mem _)
      have hst := hI.set j (vs[j] + o * rs[j]'(by omega))
      rw [addTo_step hl hlt] at hst
      rw [hx] at hc b1 hst
      rw [hy] at hd b2 hst
      have HS := hid hst
      have hm1 : IntKind.i64.wrap (o * x) = o * x := IntWalk.i64_in _ (by rcases ho with rfl | rfl <;> constructor <;> omega)
      have hm2 : IntKind.i64.wrap (y + o * x) = y + o * x := IntWalk.i64_in _ (by rcases ho with rfl | rfl <;> constructor <;> omega)
      clear hst hI hb hx hy
      go_wp2_with fail
      go_roundw
      case rel => exact ⟨j + 1, by omega, by go_num, HS.out, HB.out.trans (fr_set _ _ _ _)⟩
      case measure => simp [intOf]; omega
    · have e1 : j = vs.length := by omega
      have hz : addTo o vs rs j = List.zipWith (fun a b => a + o * b) vs rs := by
        unfold addTo
        rw [e1, List.drop_length, List.append_nil, List.take_of_length_le (by simp; omega)]
      rw [hz] at HI
      clear hz hI hb
      go_wp2
      go_end0
      exact ⟨⟨_, rfl⟩, HI.out, HB.out⟩
theorem tooM_step {ws ss : List Int} {j : Nat} (h : j < ws.length) (h' : j < ss.length) : ((ws.zip ss).drop j).any (fun p => (p.1 == 2) && decide (1 < p.2)) = (((ws[j] == 2) && decide (1 < ss[j])) || ((ws.zip ss).drop (j + 1)).any (fun p => (p.1 == 2) && decide (1 < p.2))) := by
  rw [List.drop_eq_getElem_cons (by rw [List.length_zip]; omega), List.any_cons, List.getElem_zip]
set_option maxRecDepth 100000 in
set_option maxHeartbeats 4000000 in
theorem too_any (a : Option Addr) (c : Nat) (ws : List Int) (b : Option Addr) (d : Nat) (ss : List Int) (w : World) (hA : IntsAt w a ws) (hB : IntsAt w b ss) (hl : ss.length = ws.length) :
    Calls Tryd.prog 42 #[.slice a ws.length c, .slice b ss.length d] w fun e w' => e = .returned (.bool (tooM ws ss)) ∧ w' = w := by
  have HA := hid hA; have HB := hid hB
  have hs := hA.small
  have hmax : maxLen = 9223372036854775807 := rfl
  rw [hl]
  clear hA hB
  obtain ⟨R, hR⟩ : ∃ R, tooM ws ss = R := ⟨_, rfl⟩
  rw [hR]
  have HR := hid hR
  clear hR
  go_enter Tryd.func42, Tryd.ntmps42
  go_wp2_with fail
  go_loopw [9] (fun iv wr => ∃ j : Nat, j ≤ ws.length ∧ iv = .int .i64 j ∧ wr = w ∧ ((ws.zip ss).drop j).any (fun p => (p.1 == 2) && decide (1 < p.2)) = R) (fun iv _ => ws.length - (intOf iv).toNat)
  case atStart => exact ⟨0, Nat.zero_le _, rfl, rfl, by rw [← HR.out]; unfold tooM; simp⟩
  case round =>
    obtain ⟨j, hj, rfl, rfl, hm⟩ := hrel
    by_cases hlt : j < ws.length
    · obtain ⟨b1, o1, rfl, hc⟩ := HA.out.cells j hlt
      obtain ⟨b2, o2, rfl, hd⟩ := HB.out.cells j (by omega)
      rw [tooM_step hlt (by omega)] at hm
      obtain ⟨x, hx⟩ : ∃ x, ws[j] = x := ⟨_, rfl⟩
      obtain ⟨y, hy⟩ : ∃ y, ss[j]'(by omega) = y := ⟨_, rfl⟩
      rw [hx, hy] at hm
      rw [hx] at hc
      rw [hy] at hd
      have HM := hid hm
      clear hm hx hy
      cases h1 : (x == 2) with
      | true =>
        have hx1 : x = 2 := by simpa using h1
        subst hx1
        by_cases h2 : 1 < y
        · have HF : Hid (R = true) := hid (by have := HM.out; simp [h2] at this; exact this)
          go_wp2_with fail
          go_ret
          exact ⟨by rw [HF.out]; rfl, rfl⟩
        · have HF : Hid (((ws.zip ss).drop (j + 1)).any (fun p => (p.1 == 2) && decide (1 < p.2)) = R) := hid (by have := HM.out; simpa [h2] using this)
          go_wp2_with fail
          go_roundw
          case rel => exact ⟨j + 1, by omega, by go_num, trivial, HF.out⟩
          case measure => simp [intOf]; omega
      | false =>
        have HF : Hid (((ws.zip ss).drop (j + 1)).any (fun p => (p.1 == 2) && decide (1 < p.2)) = R) := hid (by have := HM.out; rw [h1] at this; simpa using this)
        go_wp2_with fail
        go_roundw
        case rel => exact ⟨j + 1, by omega, by go_num, trivial, HF.out⟩
        case measure => simp [intOf]; omega
    · have e1 : j = ws.length := by omega
      rw [e1, List.drop_of_length_le (by rw [List.length_zip]; omega)] at hm
      have HF : Hid (R = false) := hid (by simpa using hm.symm)
      clear hm
      go_wp2
      go_ret
      exact ⟨by rw [HF.out]; rfl, rfl⟩
end Go.Proofs.YteakakonjfcpmaaDoor
