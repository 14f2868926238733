/- Words in a slice; the live question that each statement of layer 2 asks first: it is answered yes. -/
import Derived.Test.YtfkfehkbdmemnaaWList
import Derived.BigQuiet
namespace Go.Proofs.Ytfkfehkbdmemnaa
open Go.RowKit

structure WdAt (w : World) (b o : Nat) (x : Wd) : Prop where
  kind : w.cell? ⟨b, o, none⟩ = some (.int .i64 x.kind)
  text : w.cell? ⟨b, o + 1, none⟩ = some (.string x.text)
  place : w.cell? ⟨b, o + 2, none⟩ = some (.int .i64 x.place)
theorem WdAt.lt {w : World} {b o : Nat} {x : Wd} (h : WdAt w b o x) : b < w.heap.size := World.block_lt_of_cell? w _ h.kind
theorem WdAt.block {w w' : World} {b o : Nat} {x : Wd} (h : WdAt w b o x) (hb : w'.heap[b]? = w.heap[b]?) : WdAt w' b o x :=
  ⟨(World.cell?_of_block hb).trans h.kind, (World.cell?_of_block hb).trans h.text, (World.cell?_of_block hb).trans h.place⟩
theorem WdAt.below {w w' : World} {b o : Nat} {x : Wd} (h : WdAt w b o x) (hb : Below w.heap.size w w') : WdAt w' b o x := h.block (hb.block b h.lt)

/-- The slice with this address and length holds these words. -/
structure WdsAt (w : World) (a : Option Addr) (n : Nat) (ws : List Wd) : Prop where
  len : n = ws.length
  small : n ≤ maxLen
  cells : ∀ i (h : i < ws.length), ∃ b off, a = some ⟨b, off, none⟩ ∧ WdAt w b (off + i * 3) ws[i]
theorem WdsAt.below {w w' : World} {a : Option Addr} {n : Nat} {ws : List Wd} (h : WdsAt w a n ws) (hb : Below w.heap.size w w') : WdsAt w' a n ws :=
  ⟨h.len, h.small, fun i hi => by obtain ⟨b, off, ha, hc⟩ := h.cells i hi; exact ⟨b, off, ha, hc.below hb⟩⟩

theorem wdCells_at : ∀ (ws : List Wd) (i : Nat) (h : i < ws.length), (wdCells ws)[i * 3]? = some (.int .i64 ws[i].kind) ∧ (wdCells ws)[i * 3 + 1]? = some (.string ws[i].text) ∧ (wdCells ws)[i * 3 + 2]? = some (.int .i64 ws[i].place)
  | x :: r, 0, _ => by simp [wdCells, Wd.cells]
  | x :: r, i + 1, h => by
    have ih := wdCells_at r i (by simpa using h)
    have e : wdCells (x :: r) = x.cells ++ wdCells r := by simp [wdCells]
    have hl : x.cells.length = 3 := rfl
    rw [e, show (i + 1) * 3 = 3 + i * 3 by omega]
    rw [List.getElem?_append_right (by omega), List.getElem?_append_right (by omega), List.getElem?_append_right (by omega), hl]
    rw [show 3 + i * 3 - 3 = i * 3 by omega, show 3 + i * 3 + 1 - 3 = i * 3 + 1 by omega, show 3 + i * 3 + 2 - 3 = i * 3 + 2 by omega]
    simpa using ih

/-- What a slice that owns these words is. -/
theorem wdsAt_of_owns {w : World} {base n : Nat} {v : Value} {ws : List Wd} (h : w.ownsRow base 26 3 v n (wdCells ws)) : ∃ a cap, v = .slice a n cap ∧ n ≤ cap ∧ WdsAt w a n ws ∧ (∀ b off sp, a = some ⟨b, off, sp⟩ → base ≤ b ∧ off = 0 ∧ ∃ cur, w.heap[b]? = some (.cells cur 26 (0, 0)) ∧ n * 3 ≤ cur.size) := by
  obtain ⟨hl, h⟩ := h
  rw [wdCells_len] at hl
  have hn : n = ws.length := by omega
  rcases h with ⟨rfl, h0⟩ | ⟨g, cap, cur, rfl, hb, hg, hnc, hcm, hsz, hcur⟩
  · exact ⟨none, 0, by rw [h0], by omega, ⟨hn, by rw [h0]; exact Nat.zero_le _, fun i hi => by omega⟩, fun b off sp e => by cases e⟩
  · refine ⟨_, cap, rfl, hnc, ⟨hn, by omega, fun i hi => ⟨g, 0, rfl, ?_⟩⟩, fun b off sp e => ?_⟩
    · have hat := wdCells_at ws i hi
      have key : ∀ j, j < n * 3 → w.cell? ⟨g, 0 + j, none⟩ = (wdCells ws)[j]? := by
        intro j hj
        rw [Nat.zero_add, cell_of_row w g j cur 26 (0, 0) hg, ← hcur, List.getElem?_take_of_lt hj]
        simp
      exact ⟨by rw [key _ (by omega)]; exact hat.1, by rw [Nat.add_assoc, key _ (by omega)]; exact hat.2.1, by rw [Nat.add_assoc, key _ (by omega)]; exact hat.2.2⟩
    · cases e
      exact ⟨hb, rfl, cur, hg, by rw [hsz]; exact Nat.mul_le_mul_right 3 hnc⟩

def wdTriple (x : Wd) : Int × ByteArray × Nat := (x.kind, x.text, x.place)
theorem triples_same : ∀ (l m : List Wd), l.map wdTriple = m.map wdTriple → l = m
  | [], [], _ => rfl
  | [], _ :: _, h => by cases h
  | _ :: _, [], h => by cases h
  | ⟨k, t, p⟩ :: l, ⟨k', t', p'⟩ :: m, h => by
    simp only [List.map_cons, List.cons.injEq, wdTriple, Prod.mk.injEq] at h
    obtain ⟨⟨rfl, rfl, rfl⟩, h⟩ := h
    rw [triples_same l m h]
def headS : ByteArray := ⟨#[102, 40, 88, 41, 32, 45, 62, 32, 95, 49]⟩
def headW : List Wd := [⟨1, ⟨#[102]⟩, 0⟩, ⟨3, ⟨#[40]⟩, 1⟩, ⟨2, ⟨#[88]⟩, 2⟩, ⟨4, ⟨#[41]⟩, 3⟩, ⟨7, ⟨#[45, 62]⟩, 5⟩, ⟨2, ⟨#[95, 49]⟩, 8⟩]
theorem head_err : errOf headS = 0 := by decide +kernel
theorem head_at : lstAt headS = 0 := by decide +kernel
theorem head_triples : (lstWords headS).map wdTriple = headW.map wdTriple := by decide +kernel
theorem head_words : lstWords headS = headW := triples_same _ _ head_triples

set_option maxHeartbeats 1000000 in
theorem head_any (w : World) : Calls Try.prog 8 #[] w fun e w' => e = .returned (.bool true) ∧ Below w.heap.size w w' := by
  go_enter Try.func8, Try.ntmps8
  go_wp2_with fail
  refine (list_any headS _ (by decide)).mono ?_
  rintro e w1 ⟨v, he, hrow, hb1⟩
  rw [head_err, head_at] at he
  rw [head_words] at hrow
  subst he
  obtain ⟨a, cap, rfl, hcap, hat, _⟩ := wdsAt_of_owns hrow
  obtain ⟨b, off, rfl, h0⟩ := hat.cells 0 (by decide)
  obtain ⟨b', off', e', h2⟩ := hat.cells 2 (by decide)
  cases e'
  obtain ⟨b', off', e', h4⟩ := hat.cells 4 (by decide)
  cases e'
  obtain ⟨b', off', e', h5⟩ := hat.cells 5 (by decide)
  cases e'
  have k0 : w1.cell? ⟨b, off, none⟩ = some (.int .i64 1) := h0.kind
  have k2 : w1.cell? ⟨b, off + 6, none⟩ = some (.int .i64 2) := h2.kind
  have k4 : w1.cell? ⟨b, off + 12, none⟩ = some (.int .i64 7) := h4.kind
  have k5 : w1.cell? ⟨b, off + 15 + 1, none⟩ = some (.string ⟨#[95, 49]⟩) := h5.text
  have k6 : w1.cell? ⟨b, off + 15 + 2, none⟩ = some (.int .i64 8) := h5.place
  have T1 : Hid (Below w.heap.size w w1) := hb1
  clear h0 h2 h4 h5 hat hrow hb1
  go_wp2
  go_ret
  exact ⟨rfl, T1.out⟩
end Go.Proofs.Ytfkfehkbdmemnaa
