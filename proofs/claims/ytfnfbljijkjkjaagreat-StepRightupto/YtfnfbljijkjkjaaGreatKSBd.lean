import Derived.Test.YtfnfbljijkjkjaaGreatKSoA
/- What fits and tableOf answer. -/
namespace Go.Proofs.YtfnfbljijkjkjaaGreat
open Go.RowKit Go.Deep

abbrev Bn := ByteArray × Tn
/-- A bind's cells. -/
structure BdAt (w : World) (b o : Nat) (x : Bn) (a : Option Addr) (c : Nat) : Prop where
  var : w.cell? ⟨b, o, none⟩ = some (.string x.1)
  name : w.cell? ⟨b, o + 1, none⟩ = some (.string x.2.1.1)
  sym : w.cell? ⟨b, o + 2, none⟩ = some (.int .i64 x.2.1.2)
  list : w.cell? ⟨b, o + 3, none⟩ = some (.slice a (lenF x.2.2) c)
  tm : TmAt w x.2.1 a c x.2.2
theorem bd_cell {w w' : World} (hb : Below w.heap.size w w') : ∀ p v, w.cell? p = some v → w'.cell? p = some v := fun p v h => by
  rw [hb.cell (World.block_lt_of_cell? w p h)]; exact h
theorem BdAt.below {w w' : World} {b o : Nat} {x : Bn} {a : Option Addr} {c : Nat} (h : BdAt w b o x a c) (hb : Below w.heap.size w w') : BdAt w' b o x a c :=
  ⟨bd_cell hb _ _ h.var, bd_cell hb _ _ h.name, bd_cell hb _ _ h.sym, bd_cell hb _ _ h.list, h.tm.below hb⟩
/-- The slice with this address and length holds these binds. -/
structure BindsAt (w : World) (p : Option Addr) (n : Nat) (l : List Bn) : Prop where
  len : n = l.length
  small : n ≤ maxLen
  cells : ∀ i (h : i < l.length), ∃ b off a c, p = some ⟨b, off, none⟩ ∧ BdAt w b (off + i * 4) l[i] a c
  fits : ∀ x ∈ l, x.1.size ≤ maxLen
theorem BindsAt.below {w w' : World} {p : Option Addr} {n : Nat} {l : List Bn} (h : BindsAt w p n l) (hb : Below w.heap.size w w') : BindsAt w' p n l :=
  ⟨h.len, h.small, fun i hi => let ⟨b, off, a, c, h1, h2⟩ := h.cells i hi; ⟨b, off, a, c, h1, h2.below hb⟩, h.fits⟩
theorem results_ct {fn : Func} {p u : Tmp} {P : Program} {tmps : Array Value} {w : World} {B : Nat} {x y z : Value} (h : fn.results = #[.cell p 26, .tmp u]) (hp : tmps.getD p undef = .pointer (some ⟨B, 0, none⟩)) (hl : (loadVar 26 ⟨B, 0, none⟩).run P w = .ok (.agg #[x, y, z]) w) :
    (results fn tmps).run P w = .ok (.tuple #[.agg #[x, y, z], tmps.getD u undef]) w := by
  have e : (results fn tmps).run P w = ((asAddr (tmps.getD p undef)).run P w).andThen fun q w₁ => ((loadVar 26 q).run P w₁).andThen fun y w₂ => .ok (.tuple #[y, tmps.getD u undef]) w₂ := by
    simp only [results, h]
    simp [Sem.run_bind, Result.andThen]
  rw [e, hp, show (asAddr (.pointer (some ⟨B, 0, none⟩))).run P w = .ok ⟨B, 0, none⟩ w from rfl]
  simp only [Result.andThen_ok, hl]
theorem load26 {W : World} {B : Nat} {x : ByteArray × Int} {a : Option Addr} {n c : Nat} (h : TBox W B x a n c) : (loadVar 26 ⟨B, 0, none⟩).run Tryz.prog W = .ok (.agg #[.string x.1, .int .i64 x.2, .slice a n c]) W := by
  have c0 := h.c0; have c1 := h.c1; have c2 := h.c2
  simp [go_sem, loadVar, c0, c1, c2]
end Go.Proofs.YtfnfbljijkjkjaaGreat
