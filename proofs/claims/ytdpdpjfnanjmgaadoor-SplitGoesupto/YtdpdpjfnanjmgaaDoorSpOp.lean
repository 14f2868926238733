/- How numbers and deals that came in are opened; the library's table; what the second form's bound gives. -/
import Derived.Test.YtdpdpjfnanjmgaaDoorSpAk
import Derived.Test.YtdpdpjfnanjmgaaDoorCards
import Derived.Test.YtdpdpjfnanjmgaaDoorTie
import Derived.ProofKit
import Derived.OpenShut
import Derived.Deep.DeepHandedRow
import Derived.Lib.LaidTab
import Derived.WideKeyPair
namespace Go.Proofs.YtdpdpjfnanjmgaaDoor
open Go.ChangeShapes Go.WideShapes Go.ChangeAt Go.RowKit Go.Deep

theorem own : ownKnob Tryd.prog.godebug = none := by kernel_rfl
theorem laidOut : laidOutB Tryd.prog = true := by kernel_rfl
theorem gTab : Tryd.prog.globalNamed (Rows.splitAddsRow.named.headD "") = some 0 := by kernel_rfl
theorem gTabType : (Tryd.prog.globals[0]?).map (·.type) = some 78 := by kernel_rfl
theorem Tryd.cells78 : Tryd.prog.cellsOf 78 = 32 := by kernel_rfl
theorem Tryd.cells5 : Tryd.prog.cellsOf 5 = 1 := by kernel_rfl
theorem Tryd.cells3 : Tryd.prog.cellsOf 3 = 1 := by kernel_rfl
/-- What the row's list gives: the table's cells. -/
theorem tab_of {W : World} (h : laidMetH Tryd.prog Rows.splitAddsRow.laid W) : Tab W := fun i hi => by
  have h1 : Lib.TabIs Tryd.prog W (Rows.splitAddsRow.named.headD "") .u8 tab32 := Lib.tabIs_of_head (rest := []) gTab gTabType Tryd.underlying78 Tryd.underlying5 Tryd.cells5 Tryd.cells78 h
  exact h1.cell gTab i (by show i < 32; exact hi)
theorem list_of_each {α : Type} {p : Nat → α → Prop} : ∀ n : Nat, (∀ i, i < n → ∃ x, p i x) → ∃ l : List α, l.length = n ∧ ∀ i (h : i < l.length), p i l[i]
  | 0, _ => ⟨[], rfl, fun i h => absurd h (by simp)⟩
  | n + 1, h => by
    obtain ⟨l, hl, hp⟩ := list_of_each n (fun i hi => h i (by omega))
    obtain ⟨x, hx⟩ := h n (by omega)
    refine ⟨l ++ [x], by simp [hl], fun i hi => ?_⟩
    by_cases hin : i < l.length
    · rw [List.getElem_append_left hin]; exact hp i hin
    · have : i = n := by simp at hi; omega
      subst this
      rw [List.getElem_append_right (by omega)]
      simpa [hl] using hx
theorem addr_add {b off k : Nat} : (⟨b, off, none⟩ : Addr).add k = ⟨b, off + k, none⟩ := by rw [Addr.add_lit]
theorem bulk_pos {H : Type} (d : DataW H) : 1 ≤ Rows.uptoBulk d := by
  cases d with
  | lit l => cases l <;> simp [Rows.uptoBulk]
  | _ => simp [Rows.uptoBulk]
theorem bulk_len {H : Type} : ∀ ds : List (DataW H), ds.length ≤ Rows.uptoBulkAll ds
  | [] => Nat.le_refl _
  | d :: r => by
    have := bulk_len r
    have := bulk_pos d
    simp only [Rows.uptoBulkAll, List.length_cons]; omega
theorem bulk_mem {H : Type} : ∀ {ds : List (DataW H)} {d : DataW H}, d ∈ ds → Rows.uptoBulk d ≤ Rows.uptoBulkAll ds
  | e :: r, d, h => by
    simp only [Rows.uptoBulkAll]
    rcases List.mem_cons.1 h with rfl | h
    · omega
    · have := bulk_mem h
      omega
/-- Single cells of one kind: a slice's cells. -/
theorem cells_open {H : Type} {enc : TypeId × Value → H} {W : World} {t e : TypeId} (ht : Tryd.prog.underlying t = some (.slice e)) (he : Tryd.prog.cellsOf e = 1) {α : Type} {val : α → Value} {good : α → DataW H → Prop} (hv : ∀ {n : Nat} {cs : List Value} {x : DataW H × List MemPlace}, DataW.trod enc Tryd.prog W 0 (fun _ => true) true n e cs = some x → ∃ y, cs = [val y] ∧ good y x.1)
    {a : Option Addr} {len cap : Nat} {d : DataW H} {p : List MemPlace} (h : DataW.Trod enc Tryd.prog W 0 (fun _ => true) true t (.slice a len cap) d p) :
    (a = none → cap = 0) ∧ len ≤ maxLen ∧ len ≤ Rows.uptoBulk d ∧ ∃ l : List α, l.length = len ∧ ∀ i (hi : i < l.length), (∃ b o, a = some ⟨b, o, none⟩ ∧ W.cell? ⟨b, o + i, none⟩ = some (val l[i])) ∧ ∃ x, good l[i] x ∧ Rows.uptoBulk x ≤ Rows.uptoBulk d := by
  obtain ⟨fuel, hf⟩ := h
  rcases DataW.trod_slice ht hf with ⟨hcs, _⟩ | ⟨x, l, c, elems, rest, n, _, hcs, hx, hb, hl, hm, hlen, hel, _, _⟩
  · simp [Value.cells] at hcs
    obtain ⟨rfl, rfl, rfl⟩ := hcs
    exact ⟨fun _ => rfl, Nat.zero_le _, Nat.zero_le _, [], rfl, fun i hi => absurd hi (by simp)⟩
  · simp [Value.cells] at hcs
    obtain ⟨rfl, rfl, rfl⟩ := hcs
    rw [he] at hel
    have hx1 := congrArg Prod.fst hx
    simp only at hx1
    have hbd : len ≤ Rows.uptoBulk d ∧ ∀ z ∈ elems, Rows.uptoBulk z.1 ≤ Rows.uptoBulk d := by
      rw [hx1]
      simp only [Rows.uptoBulk]
      have h1 := bulk_len (elems.map (·.1))
      rw [List.length_map] at h1
      refine ⟨by omega, fun z hz => ?_⟩
      have h2 := bulk_mem (ds := elems.map (·.1)) (d := z.1) (List.mem_map_of_mem hz)
      omega
    refine ⟨fun h => (by cases h), by omega, hbd.1, ?_⟩
    have each : ∀ i, i < len → ∃ y : α, ∃ cs z, W.cells? 0 (x.add (i * 1)) 1 = some cs ∧ cs = [val y] ∧ good y z ∧ Rows.uptoBulk z ≤ Rows.uptoBulk d := by
      intro i hi
      have h1 := hel i hi
      rw [List.getElem?_eq_getElem (by omega)] at h1
      cases hc : W.cells? 0 (x.add (i * 1)) 1 with
      | none => rw [hc] at h1; cases h1
      | some cs =>
        rw [hc] at h1
        obtain ⟨y, hy, hg⟩ := hv h1
        exact ⟨y, cs, _, rfl, hy, hg, hbd.2 _ (List.getElem_mem _)⟩
    obtain ⟨ll, hll, hp⟩ := list_of_each len each
    refine ⟨ll, hll, fun i hi => ?_⟩
    obtain ⟨cs, z, h1, h2, hg, hbz⟩ := hp i hi
    refine ⟨?_, z, hg, hbz⟩
    obtain ⟨b, off, spot⟩ := x
    have hspot : spot = none := by
      obtain ⟨cs0, z0, h10, h20, _⟩ := hp 0 (by omega)
      obtain ⟨_, _, h30⟩ := World.cells?_some h10
      have := h30 0 (by omega)
      rw [h20] at this
      simpa [Addr.add] using World.cell?_spot this
    subst hspot
    refine ⟨b, off, rfl, ?_⟩
    rw [addr_add, Nat.mul_one] at h1
    obtain ⟨_, _, h3⟩ := World.cells?_some h1
    subst h2
    have k0 := h3 0 (by omega)
    rw [addr_add] at k0
    exact k0
theorem int_open {H : Type} {enc : TypeId × Value → H} {W : World} {n : Nat} {cs : List Value} {x : DataW H × List MemPlace} (h : DataW.trod enc Tryd.prog W 0 (fun _ => true) true n 3 cs = some x) : ∃ y : Int, cs = [.int .i64 y] ∧ (-9223372036854775808 ≤ y ∧ y ≤ 9223372036854775807) := by
  obtain ⟨y, e1, _, hw⟩ := DataW.trod_int Tryd.underlying3 h
  refine ⟨y, e1, ?_⟩
  simp only [Lit.wf, Bool.and_eq_true, decide_eq_true_eq] at hw
  exact hw
theorem ints_open {H : Type} {enc : TypeId × Value → H} {W : World} {a : Option Addr} {len cap : Nat} {d : DataW H} {p : List MemPlace} (h : DataW.Trod enc Tryd.prog W 0 (fun _ => true) true 23 (.slice a len cap) d p) :
    (a = none → cap = 0) ∧ len ≤ Rows.uptoBulk d ∧ ∃ ns : List Int, ns.length = len ∧ IntsAt W a ns ∧ ∀ x ∈ ns, -9223372036854775808 ≤ x ∧ x ≤ 9223372036854775807 := by
  obtain ⟨h1, h2, h3, l, hl, hp⟩ := cells_open (val := fun y : Int => Value.int .i64 y) (good := fun y _ => -9223372036854775808 ≤ y ∧ y ≤ 9223372036854775807) Tryd.underlying23 Tryd.cells3 (fun h => int_open h) h
  refine ⟨h1, h3, l, hl, ⟨by omega, fun i hi => (hp i hi).1⟩, fun x hx => ?_⟩
  obtain ⟨i, hi, rfl⟩ := List.getElem_of_mem hx
  obtain ⟨_, z, hz, _⟩ := hp i hi
  exact hz
theorem Tryd.cells29 : Tryd.prog.cellsOf 29 = 3 := by kernel_rfl
theorem Tryd.cells23 : Tryd.prog.cellsOf 23 = 1 := by kernel_rfl
theorem Tryd.cells4 : Tryd.prog.cellsOf 4 = 1 := by kernel_rfl
/-- A row of numbers within something. -/
theorem row_open {H : Type} {enc : TypeId × Value → H} {W : World} {n : Nat} {cs : List Value} {x : DataW H × List MemPlace} (h : DataW.trod enc Tryd.prog W 0 (fun _ => true) true n 23 cs = some x) : ∃ (a : Option Addr) (ns : List Int) (cap : Nat), cs = [.slice a ns.length cap] ∧ (a = none → cap = 0) ∧ IntsAt W a ns ∧ ∀ z ∈ ns, -9223372036854775808 ≤ z ∧ z ≤ 9223372036854775807 := by
  have hc : ∃ a len cap, cs = [.slice a len cap] := by
    rcases DataW.trod_slice Tryd.underlying23 h with ⟨hcs, _⟩ | ⟨x, l, c, elems, rest, n, _, hcs, _⟩
    · exact ⟨_, _, _, hcs⟩
    · exact ⟨_, _, _, hcs⟩
  obtain ⟨a, len, cap, rfl⟩ := hc
  obtain ⟨h1, h2, ns, rfl, h4, h5⟩ := ints_open (a := a) (len := len) (cap := cap) (d := x.1) (p := x.2) ⟨n, h⟩
  exact ⟨a, ns, cap, rfl, h1, h4, h5⟩
/-- A deal that came in. -/
theorem deal_open {H : Type} {enc : TypeId × Value → H} {W : World} {base : Nat} {v : Value} {d : DataW H} {p : List MemPlace} (hv : Value.okWide Tryd.prog W .any base 29 v) (h : DataW.Trod enc Tryd.prog W 0 (fun _ => true) true 29 v d p) :
    ∃ a m c b k e f, v = .agg #[.slice a (List.length m) c, .slice b (List.length k) e, .bool f] ∧ (a = none → c = 0) ∧ (b = none → e = 0) ∧ IntsAt W a m ∧ IntsAt W b k ∧ (∀ z ∈ m, -9223372036854775808 ≤ z ∧ z ≤ 9223372036854775807) ∧ ∀ z ∈ k, -9223372036854775808 ≤ z ∧ z ≤ 9223372036854775807 := by
  obtain ⟨cs, rfl, hs⟩ := okWide_struct Tryd.underlying29 hv
  obtain ⟨fuel, hf⟩ := h
  obtain ⟨y0, y1, y2, n, -, hl, g0, g1, g2⟩ := trod_struct3 Tryd.underlying29 hf
  rw [Tryd.cells29] at hl
  obtain ⟨l⟩ := cs
  match l, hl with
  | [v0, v1, v2], _ =>
    simp [Value.cells, Tryd.cells23, Tryd.cells4] at g0 g1 g2
    obtain ⟨a, m, c, e0, h1, h2, h3⟩ := row_open g0
    obtain ⟨b, k, e, e1, h4, h5, h6⟩ := row_open g1
    obtain ⟨f, e2, -⟩ := DataW.trod_bool Tryd.underlying4 g2
    simp at e0 e1 e2
    subst e0 e1 e2
    exact ⟨a, m, c, b, k, e, f, rfl, h1, h4, h2, h5, h3, h6⟩
/-- A small number that came in. -/
theorem u8_open {H : Type} {enc : TypeId × Value → H} {W : World} {base : Nat} {v : Value} {d : DataW H} {p : List MemPlace} (hv : Value.okWide Tryd.prog W .any base 5 v) (h : DataW.Trod enc Tryd.prog W 0 (fun _ => true) true 5 v d p) : ∃ y : Nat, v = .int .u8 (y : Int) ∧ y < 256 := by
  obtain ⟨y, rfl⟩ := okWide_int Tryd.underlying5 hv
  obtain ⟨fuel, hf⟩ := h
  obtain ⟨z, e1, _, hw⟩ := DataW.trod_int Tryd.underlying5 hf
  simp [Value.cells] at e1
  subst e1
  simp only [Lit.wf, Bool.and_eq_true, decide_eq_true_eq] at hw
  have h1 : (0 : Int) ≤ y := hw.1
  have h2 : y ≤ 255 := hw.2
  obtain ⟨q, rfl⟩ := Int.eq_ofNat_of_zero_le h1
  exact ⟨q, rfl, by omega⟩
/-- For the witness: the library's table as its initialiser lays it. -/
def tabObj : Obj → Obj
  | .cells _ t frozen => .cells (tab32.map (Value.int .u8)).toArray t frozen
  | o => o
end Go.Proofs.YtdpdpjfnanjmgaaDoor
