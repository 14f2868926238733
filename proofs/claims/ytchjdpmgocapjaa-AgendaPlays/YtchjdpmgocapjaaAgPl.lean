/- AgendaPlays: two pairs of agendas. -/
import Derived.Test.YtchjdpmgocapjaaAgOp2
import Derived.Test.YtchjdpmgocapjaaAgOp3
namespace Go.Proofs.Ytchjdpmgocapjaa
open Go.RowKit Go.Shelf

/-- One call of both. -/
theorem one_any {w : World} {A B : Nat} {most last : Int} {L : List Th} {F G : Nat → Prop} (h : Tw w A B most last L F G) (wh : Bool) (k x wt : Int) (hx : Is64 x) (hl : last < 9223372036854775807) : Calls Try.prog 17 #[.pointer (some ⟨A, 0, none⟩), .pointer (some ⟨B, 0, none⟩), opV wh k x wt] w fun e w' => e = .returned (.bool true) ∧ ∃ l' L', TwEnd w w' A B most l' L' F G ∧ l' ≤ last + 1 := by
  by_cases h0 : k = 0
  · subst h0
    by_cases hf : most ≤ L.length
    · exact (one_full h wh x wt hf).mono fun e w' ⟨h1, h2⟩ => ⟨h1, _, _, h2, by omega⟩
    · exact (one_more h wh x wt (by omega) hl).mono fun e w' ⟨h1, h2⟩ => ⟨h1, _, _, h2, by omega⟩
  by_cases h1 : k = 1
  · subst h1
    exact (one_pop h wh x wt (by omega)).mono fun e w' ⟨h1, h2⟩ => ⟨h1, _, _, h2, by omega⟩
  by_cases h2 : k = 2
  · subst h2
    exact (one_drop h wh x wt hx).mono fun e w' ⟨h1, h2⟩ => ⟨h1, _, _, h2, by omega⟩
  by_cases h3 : k = 3
  · subst h3
    exact (one_weigh h wh x wt hx).mono fun e w' ⟨h1, h2⟩ => ⟨h1, _, _, h2, by omega⟩
  by_cases h4 : k = 4
  · subst h4
    exact (one_all h wh x wt).mono fun e w' ⟨h1, h2⟩ => ⟨h1, _, _, h2, by omega⟩
  exact (one_peek h wh k x wt h0 h1 h2 h3 h4).mono fun e w' ⟨h1, h2⟩ => ⟨h1, _, _, h2, by omega⟩
/-- Two pairs, apart from each other. -/
structure PS2 (w wr : World) (A B : Nat → Nat) (gl gm : Nat) (most : Int) (la : Nat → Int) (L : Nat → List Th) (F G : Nat → Nat → Prop) : Prop where
  t : ∀ k, k < 2 → Tw wr (A k) (B k) most (la k) (L k) (F k) (G k)
  sep : ∀ j k, j < 2 → k < 2 → j ≠ k → ∀ q, (F j q ∨ G j q) → ¬ (F k q ∨ G k q)
  rl : wr.heap[gl]? = some (.cells #[.pointer (some ⟨A 0, 0, none⟩), .pointer (some ⟨A 1, 0, none⟩)] 38 (0, 0))
  rm : wr.heap[gm]? = some (.cells #[.pointer (some ⟨B 0, 0, none⟩), .pointer (some ⟨B 1, 0, none⟩)] 42 (0, 0))
  far : ∀ k, k < 2 → ∀ q, (F k q ∨ G k q) → q ≠ gl ∧ q ≠ gm ∧ w.heap.size ≤ q
  low : Below w.heap.size w wr
theorem PS2.cells {w wr : World} {A B : Nat → Nat} {gl gm : Nat} {most : Int} {la : Nat → Int} {L : Nat → List Th} {F G : Nat → Nat → Prop} (h : PS2 w wr A B gl gm most la L F G) (k : Nat) (hk : k < 2) : wr.cell? ⟨gl, k, none⟩ = some (.pointer (some ⟨A k, 0, none⟩)) ∧ wr.cell? ⟨gm, k, none⟩ = some (.pointer (some ⟨B k, 0, none⟩)) := by
  match k, hk with
  | 0, _ => exact ⟨cell_box h.rl rfl, cell_box h.rm rfl⟩
  | 1, _ => exact ⟨cell_box h.rl rfl, cell_box h.rm rfl⟩
theorem PS2.below {w wr wr' : World} {A B : Nat → Nat} {gl gm : Nat} {most : Int} {la : Nat → Int} {L : Nat → List Th} {F G : Nat → Nat → Prop} (h : PS2 w wr A B gl gm most la L F G) (hb : Below wr.heap.size wr wr') : PS2 w wr' A B gl gm most la L F G :=
  ⟨fun k hk => ⟨(h.t k hk).a.below hb, (h.t k hk).b.below hb, (h.t k hk).ab⟩, h.sep, below_blk hb h.rl, below_blk hb h.rm, h.far, h.low.trans (hb.mono h.low.size)⟩
theorem PS2.op {w wr wr' : World} {A B : Nat → Nat} {gl gm : Nat} {most : Int} {la : Nat → Int} {L : Nat → List Th} {F G : Nat → Nat → Prop} (h : PS2 w wr A B gl gm most la L F G) (k : Nat) (hk : k < 2) {l' : Int} {L' : List Th} (he : TwEnd wr wr' (A k) (B k) most l' L' (F k) (G k)) :
    ∃ la' L2 F' G', PS2 w wr' A B gl gm most la' L2 F' G' ∧ la' k = l' ∧ L2 k = L' ∧ ∀ j, j ≠ k → la' j = la j := by
  obtain ⟨Fk, Gk, t1, t2, t3, t4⟩ := he
  have s := h.low.size
  have lt : ∀ j, j < 2 → ∀ q, (F j q ∨ G j q) → q < wr.heap.size := fun j hj q hq => hq.elim ((h.t j hj).a.lt q) ((h.t j hj).b.lt q)
  have new : ∀ q, (Fk q ∨ Gk q) → (F k q ∨ G k q) ∨ wr.heap.size ≤ q := fun q hq => by
    rcases hq with hq | hq
    · exact (t3 q hq).imp .inl id
    · exact (t4 q hq).imp .inr id
  refine ⟨fun j => if j = k then l' else la j, fun j => if j = k then L' else L j, fun j => if j = k then Fk else F j, fun j => if j = k then Gk else G j, ⟨fun j hj => ?_, fun i j hi hj hij q hq => ?_, ?_, ?_, fun j hj q hq => ?_, ?_⟩, if_pos rfl, if_pos rfl, fun j hj => if_neg hj⟩
  · by_cases hjk : j = k
    · subst hjk
      simp only [if_true]
      exact t1
    · simp only [if_neg hjk]
      exact ⟨(h.t j hj).a.fr t2 (fun q hq hx => h.sep j k hj hk hjk q (.inl hq) hx), (h.t j hj).b.fr t2 (fun q hq hx => h.sep j k hj hk hjk q (.inr hq) hx), (h.t j hj).ab⟩
  · by_cases hik : i = k
    · by_cases hjk : j = k
      · omega
      · simp only [if_pos hik, if_neg hjk] at hq ⊢
        intro hx
        rcases new q hq with h9 | h9
        · exact h.sep k j hk hj (by omega) q h9 hx
        · have := lt j hj q hx; omega
    · by_cases hjk : j = k
      · simp only [if_neg hik, if_pos hjk] at hq ⊢
        intro hx
        rcases new q hx with h9 | h9
        · exact h.sep i k hi hk hik q hq h9
        · have := lt i hi q hq; omega
      · simp only [if_neg hik, if_neg hjk] at hq ⊢
        exact h.sep i j hi hj hij q hq
  · exact (t2.same gl (Array.getElem?_eq_some_iff.1 h.rl).1 (fun hx => (h.far k hk gl hx).1 rfl)).trans h.rl
  · exact (t2.same gm (Array.getElem?_eq_some_iff.1 h.rm).1 (fun hx => (h.far k hk gm hx).2.1 rfl)).trans h.rm
  · by_cases hjk : j = k
    · simp only [if_pos hjk] at hq
      rcases new q hq with h9 | h9
      · exact h.far k hk q h9
      · have l1 := (Array.getElem?_eq_some_iff.1 h.rl).1
        have l2 := (Array.getElem?_eq_some_iff.1 h.rm).1
        exact ⟨by omega, by omega, by omega⟩
    · simp only [if_neg hjk] at hq
      exact h.far j hj q hq
  · exact h.low.trans (t2.below (fun q hq => (h.far k hk q hq).2.2) s)
/-- An operation of a script. -/
structure Op4 where
  wh : Bool
  k : Int
  x : Int
  wt : Int
/-- A script that came in. -/
def OpsAt (W : World) (a : Option Addr) (l : List Op4) : Prop := l.length ≤ maxLen ∧ ∀ i (_ : i < l.length), ∃ b o, a = some ⟨b, o, none⟩ ∧ W.cell? ⟨b, o + i * 4, none⟩ = some (.bool l[i].wh) ∧ W.cell? ⟨b, o + i * 4 + 1, none⟩ = some (.int .i64 l[i].k) ∧ W.cell? ⟨b, o + i * 4 + 2, none⟩ = some (.int .i64 l[i].x) ∧ W.cell? ⟨b, o + i * 4 + 3, none⟩ = some (.int .i64 l[i].wt) ∧ Is64 l[i].x
end Go.Proofs.Ytchjdpmgocapjaa
