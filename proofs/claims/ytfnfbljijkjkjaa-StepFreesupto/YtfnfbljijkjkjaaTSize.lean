/- What Size and Has of package terms answer of any term. -/
import Derived.Test.YtfnfbljijkjkjaaTWalk
namespace Go.Proofs.Ytfnfbljijkjkjaa
open Go.RowKit Go.Shelf Go.Deep

attribute [local go_sem] Oper.semAt_some

/-- The law at a loop that stands in no round. -/
theorem range_own {α : Type} {P : Program} {n : Nat} {g : Operand} {ps : Array Tmp} {assign body : Code} {Q : Exit → Act → World → Prop} {a : Act} {w : World}
    {gf : Nat} {lb : Array Value} (hg : a.eval g = .func (.func gf) #[] lb) (eg : ∀ args w, (callFunc gf args).run P w = .ok (.enter gf args) w)
    {encs : α → Array Value} {Fact : Nat → α → World → Prop} {Kp : Nat → α → World → World → Prop} {S Sp : List α → Prop} {N M : Nat} {w0 : World} (hseq : SeqM P gf lb encs Fact Kp S Sp N M w0) (hb0 : Below w0.heap.size w0 w)
    (hps : ∀ x, (encs x).size = ps.size)
    (hF : ∀ x A B, Fact (w.heap.size + 2) x A → Cl w.heap.size A B → Fact (w.heap.size + 2) x B) (hKc : ∀ x A B, Cl w.heap.size A B → Kp (w.heap.size + 2) x A B) (hKt : ∀ x A B C, Kp (w.heap.size + 2) x A B → Kp (w.heap.size + 2) x B C → Kp (w.heap.size + 2) x A C)
    (I : List α → World → Prop) (Ix : Code → List α → World → Prop) (hI : ∀ s A B, I s A → Mv w.heap.size A B → I s B) (hIx : ∀ c s A B, Ix c s A → Mv w.heap.size A B → Ix c s B) (hIM : ∀ s A, I s A → s.length ≤ M) (h0 : I [] w)
    (Ax : α → Act → World → Prop) (hAx : ∀ x a' A B, Ax x a' A → Cl w.heap.size A B → Ax x a' B)
    (hassign : ∀ (pre : List α) (x : α) (W : World) (K : Act → World → Prop), I pre W → Fact (w.heap.size + 2) x W → (∀ a' W', Below W.heap.size W W' → Ax x a' W' → K a' W') →
      ∀ m, assign.wpIn (Fence.wide.inRound (w.heap.size + 1)) m P (Exit.then K (fun _ _ _ => False)) { tmps := (ps.zip (encs x)).foldl (fun t (p, v) => t.setIfInBounds p v) a.tmps, defers := [] } W)
    (hbody : ∀ (pre : List α) (x : α) (a' : Act) (W : World), (∃ r, W.heap[w.heap.size + 1]? = some (.loop r)) → I pre W → Fact (w.heap.size + 2) x W → Ax x a' W → pre.length < N →
      ∀ m, body.wpIn (Fence.wide.inRound (w.heap.size + 1)) m P (roundLeaves w.heap.size (Kp (w.heap.size + 2)) I Ix pre x W) a' W)
    (hdone : ∀ (xs : List α) (W : World), S xs → I xs W → W.heap[w.heap.size]? = some (.deferred (some [])) → Q .normal { a with defers := { target := .collected w.heap.size, args := #[] } :: a.defers } W)
    (hstop : ∀ (c : Code) (pre : List α) (W : World), Sp pre → Ix c pre W → W.heap[w.heap.size]? = some (.deferred (some [])) → c.wpIn Fence.wide n P Q { a with defers := { target := .collected w.heap.size, args := #[] } :: a.defers } W) :
    (Code.rangeFunc g ps assign body).wpIn Fence.wide n P Q a w :=
  range_core (ro := none) (l := w.heap.size + 1) (D := w.heap.size) (b := w.heap.size + 2) (dd := w.heap.size) (mark := [{ target := .collected w.heap.size, args := #[] }]) (o := .deferred (some [])) (B0 := w.heap.size)
    (fun fn => ⟨_, run_enterLoop_outer fn _ _ _ _, by simp, ((Below.refl _ w).alloc (Nat.le_refl _) _).alloc (by simp) _,
      by have := World.alloc_heap_new (w.alloc (.deferred (some []))) (.loop { state := .ready, pending := none, fn, tmps := a.tmps, params := ps, assign, body, defers := w.heap.size }); rwa [World.size_alloc] at this,
      (Below.heap_alloc _ _ _ (by simp)).trans (World.alloc_heap_new w _)⟩)
    (by omega) rfl (Nat.le_refl _) (by omega) (Nat.le_refl _) hg eg hseq hb0 hps hF hKc hKt I Ix hI hIx hIM h0 Ax hAx hassign hbody hdone hstop

theorem TBox.cl {B0 : Nat} {W W' : World} {B : Nat} {x : ByteArray × Int} {a : Option Addr} {n c : Nat} (h : TBox W B x a n c) (hm : Cl B0 W W') : TBox W' B x a n c := hm.cells _ _ _ _ h
theorem cl_cell {B0 : Nat} {W W' : World} (h : Cl B0 W W') (p : Addr) (v : Value) (hp : W.cell? p = some v) : W'.cell? p = some v := by
  obtain ⟨cs, t, fr, hb⟩ : ∃ cs t fr, W.heap[p.block]? = some (Obj.cells cs t fr) := by
    cases hc : W.heap[p.block]? with
    | none => simp [World.cell?, hc] at hp
    | some o =>
      cases o with
      | cells cs t fr => exact ⟨cs, t, fr, rfl⟩
      | _ => simp [World.cell?, hc] at hp
  have := h.cells _ _ _ _ hb
  rw [World.cell?_of_block (this.trans hb.symm)]
  exact hp
theorem Handed.cl {b B0 : Nat} {e : El} {W W' : World} (h : Handed b e W) (hc : Cl B0 W W') : Handed b e W' :=
  ⟨owns_block h.row (fun g hg => by obtain ⟨_, cur, hk⟩ := owns_cells h.row hg; rw [hk]; exact hc.cells _ _ _ _ hk), h.at_.kept (cl_cell hc)⟩
theorem Leaves.of_cl {n0 B0 : Nat} {e : El} {W W' : World} (hc : Cl B0 W W') (hn : n0 ≤ B0) : Leaves n0 e W W' := ⟨hc.below.mono hn, fun _ _ _ _ h _ => hc.cells _ _ _ _ h⟩
theorem Leaves.trans {n0 : Nat} {e : El} {X Y Z : World} (h : Leaves n0 e X Y) (k : Leaves n0 e Y Z) : Leaves n0 e X Z := ⟨h.below.trans k.below, fun i cs t fr hi ht => k.kept i cs t fr (h.kept i cs t fr hi ht) ht⟩
theorem boxed_mv {B0 : Nat} {W W' : World} {B : Nat} {t : TypeId} {v : Value} (h : Boxed W B t v) (hm : Mv B0 W W') (hB : B < B0) : Boxed W' B t v := (hm.below.block B hB).trans h
theorem below_mv {n0 B0 : Nat} {w W W' : World} (h : Below n0 w W) (hm : Mv B0 W W') (hn : n0 ≤ B0) : Below n0 w W' := h.trans (hm.below.mono hn)

/-- A store into a box of the caller's. -/
theorem Leaves.set {n0 b B : Nat} {e : El} {W : World} {t : TypeId} {v : Value} (h : Handed b e W) (hB : Boxed W B t v) (hn : n0 ≤ B) (hlt : B < b) (h1 : t ≠ 26) (h2 : t ≠ 117) (h3 : t ≠ 134) (h4 : t ≠ 42) (u : Value) : Leaves n0 e W (W.setCell ⟨B, 0, none⟩ u) :=
  ⟨(Below.refl _ _).setCell (p := ⟨B, 0, none⟩) hn u, fun k cs t' fr hk ht => by
    refine (Below.heap_setCell W ⟨B, 0, none⟩ u k (fun e' => ?_)).trans hk
    have e'' : k = B := e'
    subst e''
    rw [show W.heap[k]? = _ from hB] at hk
    cases hk
    rcases ht with rfl | rfl | rfl | rfl | hg
    · exact h1 rfl
    · exact h2 rfl
    · exact h3 rfl
    · exact h4 rfl
    · have := (owns_cells h.row hg.symm).1
      omega⟩

end Go.Proofs.Ytfnfbljijkjkjaa
