import Derived.Test.YtfnfbljijkjkjaaGreatKSoF
/- Ways that lie in memory, and what the statements' same says of two that are alike. -/
namespace Go.Proofs.YtfnfbljijkjkjaaGreat
open Go.RowKit Go.Deep

/-- The terms' cells lie in this block, from its head on. -/
def CellsAt (w : World) (g : Nat) (ks : List Kv) : Prop := ∀ i u, (kvCells ks)[i]? = some u → w.cell? ⟨g, i, none⟩ = some u
/-- A way in memory, wherever it lies. -/
structure WyAt (w : World) (v : Value) (V : Wy) : Prop where
  is : ∃ a c ks la lc, v = .agg (wayC V.act V.bv V.t.1 a (lenF V.t.2) c la V.ls.length lc V.sym) ∧ TmAt w V.t.1 a c V.t.2 ∧ ks.map Kv.tn = flatL V.ls ∧ (∀ k ∈ ks, TmAt w k.x k.a k.c k.l) ∧ (V.ls.length = 0 ∨ ∃ g, la = some ⟨g, 0, none⟩ ∧ CellsAt w g ks) ∧ V.ls.length ≤ lc
theorem CellsAt.below {w w' : World} {g : Nat} {ks : List Kv} (h : CellsAt w g ks) (hb : Below w.heap.size w w') : CellsAt w' g ks := fun i u hu => below_cell hb _ _ (h i u hu)
theorem WyAt.below {w w' : World} {v : Value} {V : Wy} (h : WyAt w v V) (hb : Below w.heap.size w w') : WyAt w' v V := by
  obtain ⟨a, c, ks, la, lc, h1, h2, h3, h4, h5, h6⟩ := h.is
  refine ⟨a, c, ks, la, lc, h1, h2.below hb, h3, fun k hk => (h4 k hk).below hb, ?_, h6⟩
  rcases h5 with h5 | ⟨g, h7, h8⟩
  · exact .inl h5
  · exact .inr ⟨g, h7, h8.below hb⟩
theorem SepL.tms {w : World} : ∀ {ks : List Kv} {A : Nat → Prop}, SepL w ks A → ∀ k ∈ ks, TmAt w k.x k.a k.c k.l
  | [], _, _, k, hk => absurd hk (by simp)
  | _ :: _, _, ⟨_, _, _, _, h3, h4⟩, k, hk => by
    rcases List.mem_cons.1 hk with rfl | hk
    · exact h3.tm
    · exact SepL.tms h4 k hk
theorem OneAt.wy {base : Nat} {w : World} {v : Value} {V : Wy} (h : OneAt base w v V) : WyAt w v V := by
  obtain ⟨tk, ks, la, lc, h1, h2, h3, h4, h5⟩ := h.is
  have ht := h5.tms
  subst h1
  obtain ⟨act, bv, t, ls, sym⟩ := V
  dsimp only at *
  subst h2
  refine ⟨tk.a, tk.c, ks, la, lc, rfl, ht tk (by simp), h3, fun k hk => ht k (by simp [hk]), ?_, ?_⟩
  · rcases h4 with h4 | ⟨g, g1, g2, g3, g4⟩
    · exact .inl h4.1
    · exact .inr ⟨g, g1, fun i u hu => g4.at hu⟩
  · rcases h4 with h4 | ⟨g, g1, g2, g3, g4⟩
    · show ls.length ≤ lc; omega
    · exact Nat.le_of_eq g3.symm

/-- The cells of an equation, and its two terms. -/
structure EqAt (w : World) (g j : Nat) (p q : Tn) (a b : Option Addr) (c d : Nat) : Prop where
  c0 : w.cell? ⟨g, j * 6, none⟩ = some (.string p.1.1)
  c1 : w.cell? ⟨g, j * 6 + 1, none⟩ = some (.int .i64 p.1.2)
  c2 : w.cell? ⟨g, j * 6 + 2, none⟩ = some (.slice a (lenF p.2) c)
  c3 : w.cell? ⟨g, j * 6 + 3, none⟩ = some (.string q.1.1)
  c4 : w.cell? ⟨g, j * 6 + 4, none⟩ = some (.int .i64 q.1.2)
  c5 : w.cell? ⟨g, j * 6 + 5, none⟩ = some (.slice b (lenF q.2) d)
  l : TmAt w p.1 a c p.2
  r : TmAt w q.1 b d q.2
theorem EqAt.below {w w' : World} {g j : Nat} {p q : Tn} {a b : Option Addr} {c d : Nat} (h : EqAt w g j p q a b c d) (hb : Below w.heap.size w w') : EqAt w' g j p q a b c d :=
  ⟨below_cell hb _ _ h.c0, below_cell hb _ _ h.c1, below_cell hb _ _ h.c2, below_cell hb _ _ h.c3, below_cell hb _ _ h.c4, below_cell hb _ _ h.c5, h.l.below hb, h.r.below hb⟩
theorem flat_at : ∀ (ls : List (Tn × Tn)) (j : Nat) (h : j < ls.length), (flatL ls)[2 * j]? = some ls[j].1 ∧ (flatL ls)[2 * j + 1]? = some ls[j].2
  | [], j, h => absurd h (by simp)
  | p :: r, 0, _ => ⟨rfl, rfl⟩
  | p :: r, j + 1, h => by
    have ih := flat_at r j (by simpa using h)
    have e : flatL (p :: r) = p.1 :: p.2 :: flatL r := rfl
    rw [e, show 2 * (j + 1) = 2 * j + 1 + 1 by omega, show 2 * j + 1 + 1 + 1 = (2 * j + 1) + 1 + 1 by omega]
    simp only [List.getElem?_cons_succ, List.getElem_cons_succ]
    exact ih
theorem eq_at {w : World} {g : Nat} {ks : List Kv} {ls : List (Tn × Tn)} (hc : CellsAt w g ks) (hk : ks.map Kv.tn = flatL ls) (ht : ∀ k ∈ ks, TmAt w k.x k.a k.c k.l) {j : Nat} (hj : j < ls.length) : ∃ a b c d, EqAt w g j ls[j].1 ls[j].2 a b c d := by
  have hl : ks.length = 2 * ls.length := by
    have := congrArg List.length hk
    rwa [List.length_map, flat_len] at this
  obtain ⟨f1, f2⟩ := flat_at ls j hj
  rw [← hk, List.getElem?_map] at f1 f2
  rw [List.getElem?_eq_getElem (by omega), Option.map_some, Option.some.injEq] at f1 f2
  have a1 := kv_at ks (2 * j) (by omega)
  have a2 := kv_at ks (2 * j + 1) (by omega)
  rw [show 2 * j * 3 = j * 6 by omega] at a1
  rw [show (2 * j + 1) * 3 = j * 6 + 3 by omega] at a2
  have t1 := ht ks[2 * j] (List.getElem_mem _)
  have t2 := ht ks[2 * j + 1] (List.getElem_mem _)
  rw [← f1, ← f2]
  exact ⟨ks[2 * j].a, ks[2 * j + 1].a, ks[2 * j].c, ks[2 * j + 1].c, hc _ _ a1.1, hc _ _ a1.2.1, hc _ _ a1.2.2, hc _ _ a2.1, hc _ _ a2.2.1, hc _ _ a2.2.2, t1, t2⟩

end Go.Proofs.YtfnfbljijkjkjaaGreat
