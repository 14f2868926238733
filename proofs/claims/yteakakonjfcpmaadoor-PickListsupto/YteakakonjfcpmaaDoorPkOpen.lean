/- How rows, numbers and masks that came in are opened; the library's table; what the second form's bound gives. -/
import Derived.Test.YteakakonjfcpmaaDoorPkLives
import Derived.Test.YteakakonjfcpmaaDoorCards
import Derived.Test.YteakakonjfcpmaaDoorTie
import Derived.ProofKit
import Derived.OpenShut
import Derived.Deep.DeepHandedRow
import Derived.Lib.LaidTab
import Derived.WideKeyPair
namespace Go.Proofs.YteakakonjfcpmaaDoor
open Go.ChangeShapes Go.WideShapes Go.ChangeAt Go.RowKit Go.Deep

theorem own : ownKnob Tryd.prog.godebug = none := by kernel_rfl
theorem laidOut : laidOutB Tryd.prog = true := by kernel_rfl
theorem gTab : Tryd.prog.globalNamed (Rows.pickColumnsRow.named.headD "") = some 0 := by kernel_rfl
theorem gTabType : (Tryd.prog.globals[0]?).map (·.type) = some 63 := by kernel_rfl
theorem Tryd.cells63 : Tryd.prog.cellsOf 63 = 32 := by kernel_rfl
theorem Tryd.cells5 : Tryd.prog.cellsOf 5 = 1 := by kernel_rfl
theorem Tryd.cells3 : Tryd.prog.cellsOf 3 = 1 := by kernel_rfl
theorem Tryd.cells29 : Tryd.prog.cellsOf 29 = 1 := by kernel_rfl
theorem Tryd.cells32 : Tryd.prog.cellsOf 32 = 1 := by kernel_rfl
/-- What the row's list gives: the table's cells. -/
theorem tab_of {W : World} (h : laidMetH Tryd.prog Rows.pickColumnsRow.laid W) : Tab W := fun i hi => by
  have h1 : Lib.TabIs Tryd.prog W (Rows.pickColumnsRow.named.headD "") .u8 tab32 := Lib.tabIs_of_head (rest := []) gTab gTabType Tryd.underlying63 Tryd.underlying5 Tryd.cells5 Tryd.cells63 h
  exact h1.cell gTab i (by show i < 32; exact hi)
theorem list_of_each {α : Type} {p : Nat → α → Prop} : ∀ n : Nat, (∀ i, i < n → ∃ x, p i x) → ∃ l : List α, l.length = n ∧ ∀ i (h : i < l.length), p i l[i]
  | 0, _ => ⟨[], rfl, fun i h => absurd h (by simp)⟩
  | n + 1, h => by
    obtain ⟨l, hl, hp⟩ := list_of_each n (fun i hi => h i (by omega))
    obtain ⟨x, hx⟩ := h n (by omega)
    refine ⟨l ++ [x], by simp [hl], fun i hi => ?_⟩
    by_cases hin : i < l.length
    · rw [List.getElem_append_left hin]; exact hp i hin
    · have : i = n := by simp at hi; omega
      subst this
      rw [List.getElem_append_right (by omega)]
      simpa [hl] using hx
theorem addr_add {b off k : Nat} : (⟨b, off, none⟩ : Addr).add k = ⟨b, off + k, none⟩ := by rw [Addr.add_lit]
theorem bulk_pos {H : Type} (d : DataW H) : 1 ≤ Rows.uptoBulk d := by
  cases d with
  | lit l => cases l <;> simp [Rows.uptoBulk]
  | _ => simp [Rows.uptoBulk]
theorem bulk_len {H : Type} : ∀ ds : List (DataW H), ds.length ≤ Rows.uptoBulkAll ds
  | [] => Nat.le_refl _
  | d :: r => by
    have := bulk_len r
    have := bulk_pos d
    simp only [Rows.uptoBulkAll, List.length_cons]; omega
theorem bulk_mem {H : Type} : ∀ {ds : List (DataW H)} {d : DataW H}, d ∈ ds → Rows.uptoBulk d ≤ Rows.uptoBulkAll ds
  | e :: r, d, h => by
    simp only [Rows.uptoBulkAll]
    rcases List.mem_cons.1 h with rfl | h
    · omega
    · have := bulk_mem h
      omega
/-- Single cells of one kind: a slice's cells. -/
theorem cells_open {H : Type} {enc : TypeId × Value → H} {W : World} {t e : TypeId} (ht : Tryd.prog.underlying t = some (.slice e)) (he : Tryd.prog.cellsOf e = 1) {α : Type} {val : α → Value} {good : α → DataW H → Prop} (hv : ∀ {n : Nat} {cs : List Value} {x : DataW H × List MemPlace}, DataW.trod enc Tryd.prog W 0 (fun _ => true) true n e cs = some x → ∃ y, cs = [val y] ∧ good y x.1)
    {a : Option Addr} {len cap : Nat} {d : DataW H} {p : List MemPlace} (h : DataW.Trod enc Tryd.prog W 0 (fun _ => true) true t (.slice a len cap) d p) :
    (a = none → cap = 0) ∧ len ≤ maxLen ∧ len ≤ Rows.uptoBulk d ∧ ∃ l : List α, l.length = len ∧ ∀ i (hi : i < l.length), (∃ b o, a = some ⟨b, o, none⟩ ∧ W.cell? ⟨b, o + i, none⟩ = some (val l[i])) ∧ ∃ x, good l[i] x ∧ Rows.uptoBulk x ≤ Rows.uptoBulk d := by
  obtain ⟨fuel, hf⟩ := h
  rcases DataW.trod_slice ht hf with ⟨hcs, _⟩ | ⟨x, l, c, elems, rest, n, _, hcs, hx, hb, hl, hm, hlen, hel, _, _⟩
  · simp [Value.cells] at hcs
    obtain ⟨rfl, rfl, rfl⟩ := hcs
    exact ⟨fun _ => rfl, Nat.zero_le _, Nat.zero_le _, [], rfl, fun i hi => absurd hi (by simp)⟩
  · simp [Value.cells] at hcs
    obtain ⟨rfl, rfl, rfl⟩ := hcs
    rw [he] at hel
    have hx1 := congrArg Prod.fst hx
    simp only at hx1
    have hbd : len ≤ Rows.uptoBulk d ∧ ∀ z ∈ elems, Rows.uptoBulk z.1 ≤ Rows.uptoBulk d := by
      rw [hx1]
      simp only [Rows.uptoBulk]
      have h1 := bulk_len (elems.map (·.1))
      rw [List.length_map] at h1
      refine ⟨by omega, fun z hz => ?_⟩
      have h2 := bulk_mem (ds := elems.map (·.1)) (d := z.1) (List.mem_map_of_mem hz)
      omega
    refine ⟨fun h => (by cases h), by omega, hbd.1, ?_⟩
    have each : ∀ i, i < len → ∃ y : α, ∃ cs z, W.cells? 0 (x.add (i * 1)) 1 = some cs ∧ cs = [val y] ∧ good y z ∧ Rows.uptoBulk z ≤ Rows.uptoBulk d := by
      intro i hi
      have h1 := hel i hi
      rw [List.getElem?_eq_getElem (by omega)] at h1
      cases hc : W.cells? 0 (x.add (i * 1)) 1 with
      | none => rw [hc] at h1; cases h1
      | some cs =>
        rw [hc] at h1
        obtain ⟨y, hy, hg⟩ := hv h1
        exact ⟨y, cs, _, rfl, hy, hg, hbd.2 _ (List.getElem_mem _)⟩
    obtain ⟨ll, hll, hp⟩ := list_of_each len each
    refine ⟨ll, hll, fun i hi => ?_⟩
    obtain ⟨cs, z, h1, h2, hg, hbz⟩ := hp i hi
    refine ⟨?_, z, hg, hbz⟩
    obtain ⟨b, off, spot⟩ := x
    have hspot : spot = none := by
      obtain ⟨cs0, z0, h10, h20, _⟩ := hp 0 (by omega)
      obtain ⟨_, _, h30⟩ := World.cells?_some h10
      have := h30 0 (by omega)
      rw [h20] at this
      simpa [Addr.add] using World.cell?_spot this
    subst hspot
    refine ⟨b, off, rfl, ?_⟩
    rw [addr_add, Nat.mul_one] at h1
    obtain ⟨_, _, h3⟩ := World.cells?_some h1
    subst h2
    have k0 := h3 0 (by omega)
    rw [addr_add] at k0
    exact k0
theorem int_open {H : Type} {enc : TypeId × Value → H} {W : World} {n : Nat} {cs : List Value} {x : DataW H × List MemPlace} (h : DataW.trod enc Tryd.prog W 0 (fun _ => true) true n 3 cs = some x) : ∃ y : Int, cs = [.int .i64 y] ∧ (-9223372036854775808 ≤ y ∧ y ≤ 9223372036854775807) := by
  obtain ⟨y, e1, _, hw⟩ := DataW.trod_int Tryd.underlying3 h
  refine ⟨y, e1, ?_⟩
  simp only [Lit.wf, Bool.and_eq_true, decide_eq_true_eq] at hw
  exact hw
theorem mask_open {H : Type} {enc : TypeId × Value → H} {W : World} {n : Nat} {cs : List Value} {x : DataW H × List MemPlace} (h : DataW.trod enc Tryd.prog W 0 (fun _ => true) true n 32 cs = some x) : ∃ y : Int, cs = [.int .u32 y] ∧ (0 ≤ y ∧ y < 4294967296) := by
  obtain ⟨y, e1, _, hw⟩ := DataW.trod_int Tryd.underlying32 h
  refine ⟨y, e1, ?_⟩
  simp only [Lit.wf, Bool.and_eq_true, decide_eq_true_eq] at hw
  have h1 : (0 : Int) ≤ y := hw.1
  have h2 : y ≤ 4294967295 := hw.2
  omega
theorem ints_open {H : Type} {enc : TypeId × Value → H} {W : World} {a : Option Addr} {len cap : Nat} {d : DataW H} {p : List MemPlace} (h : DataW.Trod enc Tryd.prog W 0 (fun _ => true) true 29 (.slice a len cap) d p) :
    (a = none → cap = 0) ∧ len ≤ Rows.uptoBulk d ∧ ∃ ns : List Int, ns.length = len ∧ IntsAt W a ns ∧ ∀ x ∈ ns, -9223372036854775808 ≤ x ∧ x ≤ 9223372036854775807 := by
  obtain ⟨h1, h2, h3, l, hl, hp⟩ := cells_open (val := fun y : Int => Value.int .i64 y) (good := fun y _ => -9223372036854775808 ≤ y ∧ y ≤ 9223372036854775807) Tryd.underlying29 Tryd.cells3 (fun h => int_open h) h
  refine ⟨h1, h3, l, hl, ⟨by omega, fun i hi => (hp i hi).1⟩, fun x hx => ?_⟩
  obtain ⟨i, hi, rfl⟩ := List.getElem_of_mem hx
  obtain ⟨_, z, hz, _⟩ := hp i hi
  exact hz
theorem masks_open {H : Type} {enc : TypeId × Value → H} {W : World} {a : Option Addr} {len cap : Nat} {d : DataW H} {p : List MemPlace} (h : DataW.Trod enc Tryd.prog W 0 (fun _ => true) true 23 (.slice a len cap) d p) :
    (a = none → cap = 0) ∧ len ≤ Rows.uptoBulk d ∧ ∃ ms : List Int, ms.length = len ∧ ms.length ≤ maxLen ∧ (∀ i (hi : i < ms.length), ∃ b o, a = some ⟨b, o, none⟩ ∧ W.cell? ⟨b, o + i, none⟩ = some (.int .u32 ms[i])) ∧ ∀ x ∈ ms, 0 ≤ x ∧ x < 4294967296 := by
  obtain ⟨h1, h2, h3, l, hl, hp⟩ := cells_open (val := fun y : Int => Value.int .u32 y) (good := fun y _ => 0 ≤ y ∧ y < 4294967296) Tryd.underlying23 Tryd.cells32 (fun h => mask_open h) h
  refine ⟨h1, h3, l, hl, by omega, fun i hi => (hp i hi).1, fun x hx => ?_⟩
  obtain ⟨i, hi, rfl⟩ := List.getElem_of_mem hx
  obtain ⟨_, z, hz, _⟩ := hp i hi
  exact hz
theorem row_open {H : Type} {enc : TypeId × Value → H} {W : World} {n : Nat} {cs : List Value} {x : DataW H × List MemPlace} (h : DataW.trod enc Tryd.prog W 0 (fun _ => true) true n 29 cs = some x) : ∃ y : Option Addr × Nat × List Int, cs = [.slice y.1 y.2.2.length y.2.1] ∧ ((y.1 = none → y.2.1 = 0) ∧ IntsAt W y.1 y.2.2 ∧ y.2.2.length ≤ Rows.uptoBulk x.1 ∧ ∀ z ∈ y.2.2, -9223372036854775808 ≤ z ∧ z ≤ 9223372036854775807) := by
  have hc : ∃ a len cap, cs = [.slice a len cap] := by
    rcases DataW.trod_slice Tryd.underlying29 h with ⟨hcs, _⟩ | ⟨x, l, c, elems, rest, n, _, hcs, _⟩
    · exact ⟨_, _, _, hcs⟩
    · exact ⟨_, _, _, hcs⟩
  obtain ⟨a, len, cap, rfl⟩ := hc
  obtain ⟨h1, h2, ns, rfl, h4, h5⟩ := ints_open (a := a) (len := len) (cap := cap) (d := x.1) (p := x.2) ⟨n, h⟩
  exact ⟨(a, cap, ns), rfl, h1, h4, h2, h5⟩
abbrev rowOf (y : Option Addr × Nat × List Int) : List Int := y.2.2
theorem rows_open {H : Type} {enc : TypeId × Value → H} {W : World} {a : Option Addr} {len cap : Nat} {d : DataW H} {p : List MemPlace} (h : DataW.Trod enc Tryd.prog W 0 (fun _ => true) true 27 (.slice a len cap) d p) :
    (a = none → cap = 0) ∧ len ≤ Rows.uptoBulk d ∧ ∃ rs : List (List Int), rs.length = len ∧ RowsAt W a rs ∧ (∀ r ∈ rs, r.length ≤ Rows.uptoBulk d ∧ ∀ x ∈ r, -9223372036854775808 ≤ x ∧ x ≤ 9223372036854775807) ∧ ∀ i (hi : i < rs.length), ∃ b o q c, a = some ⟨b, o, none⟩ ∧ W.cell? ⟨b, o + i, none⟩ = some (.slice q rs[i].length c) ∧ IntsAt W q rs[i] ∧ (q = none → c = 0) := by
  obtain ⟨h1, h2, h3, l, hl, hp⟩ := cells_open (val := fun y : Option Addr × Nat × List Int => Value.slice y.1 y.2.2.length y.2.1) (good := fun y x => (y.1 = none → y.2.1 = 0) ∧ IntsAt W y.1 y.2.2 ∧ y.2.2.length ≤ Rows.uptoBulk x ∧ ∀ z ∈ y.2.2, -9223372036854775808 ≤ z ∧ z ≤ 9223372036854775807) Tryd.underlying27 Tryd.cells29 (fun h => row_open h) h
  have each : ∀ i (hi : i < (l.map rowOf).length), ∃ b o q c, a = some ⟨b, o, none⟩ ∧ W.cell? ⟨b, o + i, none⟩ = some (.slice q (l.map rowOf)[i].length c) ∧ IntsAt W q (l.map rowOf)[i] ∧ (q = none → c = 0) := fun i hi => by
    obtain ⟨⟨b, o, e1, e2⟩, z, ⟨g1, g2, _, _⟩, _⟩ := hp i (by simpa using hi)
    refine ⟨b, o, _, _, e1, ?_, ?_, g1⟩
    · simp only [List.getElem_map]; exact e2
    · simp only [List.getElem_map]; exact g2
  refine ⟨h1, h3, l.map rowOf, by simpa using hl, ⟨by simp; omega, fun i hi => let ⟨b, o, q, c, k1, k2, k3, _⟩ := each i hi; ⟨b, o, q, c, k1, k2, k3⟩⟩, fun r hr => ?_, each⟩
  obtain ⟨y, hy, rfl⟩ := List.mem_map.1 hr
  obtain ⟨i, hi, rfl⟩ := List.getElem_of_mem hy
  obtain ⟨_, z, ⟨_, _, g3, g4⟩, hz⟩ := hp i hi
  exact ⟨Nat.le_trans g3 hz, g4⟩
/-- The second form's bound, of three and of two. -/
theorem small_three {H : Type} {d e f : DataW H} (hk : Rows.uptoSmall H [d, e, f] = true) : Rows.uptoBulk d + Rows.uptoBulk e + Rows.uptoBulk f ≤ 1048576 := by
  have h : Rows.uptoBulkAll [d, e, f] ≤ 1048576 := of_decide_eq_true hk
  simp only [Rows.uptoBulkAll] at h
  omega
/-- For the witness: the library's table as its initialiser lays it. -/
def tabObj : Obj → Obj
  | .cells _ t frozen => .cells (tab32.map (Value.int .u8)).toArray t frozen
  | o => o
end Go.Proofs.YteakakonjfcpmaaDoor
