/- AgendaSorts, plainly; its memory. -/
import Derived.Test.YtchjdpmgocapjaaAgIn
import Derived.Test.YtchjdpmgocapjaaAgAi
namespace Go.Proofs.Ytchjdpmgocapjaa
open Go.RowKit Go.Shelf

/-- A thing as AgendaSorts puts it in. -/
def Gd (ws : List Int) (t : Th) : Prop := t.tk = t.x + 1 ∧ ∃ k : Nat, k < ws.length ∧ t.x = k ∧ t.wt = at0 ws k
theorem row_gd (ws : List Int) : ∀ t ∈ rowB (at0 ws) ws.length, Gd ws t := fun t ht => by
  obtain ⟨k, hk, rfl⟩ := List.mem_map.1 ht
  exact ⟨by show ((k + 1 : Nat) : Int) = (k : Int) + 1; omega, k, List.mem_range.1 hk, rfl, rfl⟩
theorem all_mem {L : List Th} (hR : Rise L) {t : Th} (h : t ∈ allL L) : t ∈ L := (all_spec L.length L rfl hR).1.subset h
theorem rise_row (w : Nat → Int) (n : Nat) : Rise (rowB w n) := by
  unfold rowB Rise
  refine List.pairwise_map.2 (List.pairwise_lt_range.imp ?_)
  intro a b hab
  show ((a + 1 : Nat) : Int) < ((b + 1 : Nat) : Int)
  omega
/-- What is left behind i Pops. -/
structure Left (ws : List Int) (i : Nat) (L : List Th) (lv : Int) : Prop where
  rise : Rise L
  all : allL L = (allL (rowB (at0 ws) ws.length)).drop i
  gd : ∀ t ∈ L, Gd ws t
  last : (lv = -1) ∨ ∃ k : Nat, k < ws.length ∧ lv = k ∧ ∀ t ∈ L, at0 ws k < t.wt ∨ (at0 ws k = t.wt ∧ (k : Int) < t.x)
theorem left_start (ws : List Int) : Left ws 0 (rowB (at0 ws) ws.length) (-1) := ⟨rise_row _ _, rfl, row_gd ws, .inl rfl⟩
theorem Left.len {ws : List Int} {i : Nat} {L : List Th} {lv : Int} (h : Left ws i L lv) : L.length = ws.length - i := by
  have h1 := all_len L h.rise
  have h2 := all_len (rowB (at0 ws) ws.length) (rise_row _ _)
  rw [h.all, List.length_drop, h2, row_len] at h1
  exact h1.symm
/-- The next one. -/
theorem Left.step {ws : List Int} {i : Nat} {L : List Th} {lv : Int} (h : Left ws i L lv) (hi : i < ws.length) : ∃ k : Nat, ∃ _ : k < ws.length, peekV L = .tuple #[.int .i64 (k : Int), .int .i64 ((k : Int) + 1), .bool true] ∧ ((allL (rowB (at0 ws) ws.length)).map Th.x)[i]? = some (k : Int) ∧ Left ws (i + 1) (popL L) (k : Int) ∧ ((lv = -1) ∨ ∃ j : Nat, j < ws.length ∧ lv = j ∧ ¬ (at0 ws k < at0 ws j) ∧ ¬ (at0 ws k = at0 ws j ∧ (k : Int) ≤ (j : Int))) := by
  have hl := h.len
  have hn : nxI L < L.length := nx_lt (fun e => by rw [e] at hl; simp only [List.length_nil] at hl; omega)
  have hst := all_step hn
  rw [h.all] at hst
  have hil : i < (allL (rowB (at0 ws) ws.length)).length := by rw [all_len _ (rise_row _ _), row_len]; exact hi
  rw [List.drop_eq_getElem_cons hil] at hst
  injection hst with e1 e2
  obtain ⟨g1, k, hk, g2, g3⟩ := h.gd L[nxI L] (List.getElem_mem hn)
  refine ⟨k, hk, ?_, ?_, ⟨rise_erase h.rise _, e2.symm, fun t ht => h.gd t (List.mem_of_mem_eraseIdx ht), .inr ⟨k, hk, rfl, fun t ht => ?_⟩⟩, ?_⟩
  · rw [peek_eq hn, g1, g2]
  · rw [List.getElem?_map, List.getElem?_eq_getElem hil, e1]
    exact congrArg some g2
  · have hlt := nx_ahead h.rise hn t ht
    obtain ⟨t1, k', hk', t2, t3⟩ := h.gd t (List.mem_of_mem_eraseIdx ht)
    unfold lessT at hlt
    rw [g1, g2, g3, t1] at hlt
    omega
  · rcases h.last with h9 | ⟨j, hj, e9, h9⟩
    · exact .inl h9
    · refine .inr ⟨j, hj, e9, ?_⟩
      have := h9 _ (List.getElem_mem hn)
      rw [g2, g3] at this
      omega
theorem results_c1 {fn : Func} {p : Tmp} {tp : TypeId} {P : Program} {tmps : Array Value} {w : World} {a : Addr} {x : Value} (h : fn.results = #[.cell p tp]) (hp : tmps.getD p undef = .pointer (some a))
    (la : (loadVar tp a).run P w = .ok x w) : (results fn tmps).run P w = .ok x w := by
  have hp' : tmps[p]?.getD undef = .pointer (some a) := by simpa using hp
  simp [results, h, hp', asAddr, la]
theorem load_bool {W : World} {B : Nat} {v : Bool} {t : TypeId} (h : W.heap[B]? = some (.cells #[.bool v] t (0, 0))) : (loadVar 4 ⟨B, 0, none⟩).run Try.prog W = .ok (.bool v) W := by
  have c0 : W.cell? ⟨B, 0, none⟩ = some (.bool v) := cell_box h rfl
  simp [go_sem, loadVar, c0]
/-- All's function value. -/
theorem allv_any (A : Nat) (w : World) : Calls Try.prog 20 #[.pointer (some ⟨A, 0, none⟩)] w fun e w' => e = .returned (.func (.func 39) #[] #[.pointer (some ⟨w.heap.size, 0, none⟩)]) ∧ w' = w.alloc (.cells #[.pointer (some ⟨A, 0, none⟩)] 38) := by
  go_enter Try.func20, Try.ntmps20
  go_wp2
  go_ret
  exact ⟨rfl, rfl⟩
/-- An agenda, the result's box, a box with a row of numbers, the deferred list. -/
structure PS (w0 w : World) (R D Bt A : Nat) (most last : Int) (L : List Th) (F : Nat → Prop) (vt : Value) (ts : List Int) : Prop where
  res : w.heap[R]? = some (.cells #[.bool false] 4 (0, 0))
  df : w.heap[D]? = some (.deferred (some []))
  bx : w.heap[Bt]? = some (.cells #[vt] 52 (0, 0))
  ag : AgAt w A most last L F
  row : IOwn w vt ts
  far : ¬ F R ∧ ¬ F D ∧ ¬ F Bt ∧ ∀ g, vt.ownBlock = some g → ¬ F g
  up : ∀ b, F b → w0.heap.size ≤ b
  ge : w0.heap.size ≤ R ∧ w0.heap.size ≤ D
  low : Below w0.heap.size w0 w
theorem PS.op {w0 w w' : World} {R D Bt A : Nat} {most last : Int} {L : List Th} {F : Nat → Prop} {vt : Value} {ts : List Int} (h : PS w0 w R D Bt A most last L F vt ts) {l' : Int} {L' : List Th} (he : AgEnd w w' A most l' L' F) : ∃ F', PS w0 w' R D Bt A most l' L' F' vt ts := by
  obtain ⟨F', h1, h2, h3⟩ := he
  have s := h.low.size
  have lR := (Array.getElem?_eq_some_iff.1 h.res).1
  have lD := (Array.getElem?_eq_some_iff.1 h.df).1
  have lB := (Array.getElem?_eq_some_iff.1 h.bx).1
  refine ⟨F', (h2.same _ lR h.far.1).trans h.res, (h2.same _ lD h.far.2.1).trans h.df, (h2.same _ lB h.far.2.2.1).trans h.bx, h1, h.row.fr h2 h.far.2.2.2, ⟨fun hx => ?_, fun hx => ?_, fun hx => ?_, fun g hg hx => ?_⟩, fun b hb => ?_, h.ge, h.low.trans (h2.below h.up s)⟩
  · rcases h3 _ hx with h4 | h4
    · exact h.far.1 h4
    · omega
  · rcases h3 _ hx with h4 | h4
    · exact h.far.2.1 h4
    · omega
  · rcases h3 _ hx with h4 | h4
    · exact h.far.2.2.1 h4
    · omega
  · rcases h3 _ hx with h4 | h4
    · exact h.far.2.2.2 g hg h4
    · have := h.row.row hg; omega
  · rcases h3 b hb with h4 | h4
    · exact h.up b h4
    · omega
end Go.Proofs.Ytchjdpmgocapjaa
