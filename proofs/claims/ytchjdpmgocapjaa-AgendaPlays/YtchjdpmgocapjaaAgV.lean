/- An agenda in memory; its Len and Peek. -/
import Derived.Test.YtchjdpmgocapjaaAgU
import Derived.Test.YtchjdpmgocapjaaAgT
namespace Go.Proofs.Ytchjdpmgocapjaa
open Go.RowKit Go.Shelf

theorem QZ.ents {w : World} {v : Value} {es : List En} (h : QZ w v es) (k : Nat) (hk : k < es.length) : EnAt w es[k] k := by
  rcases h with ⟨rfl, rfl⟩ | ⟨g, cap, rfl, h⟩
  · exact absurd hk (Nat.not_lt_zero _)
  · exact h.ents k hk
theorem QZ.row {w : World} {v : Value} {es : List En} (h : QZ w v es) {g : Nat} (hg : v.ownBlock = some g) : ∃ cs : Array Value, w.heap[g]? = some (.cells cs 86 (0, 0)) := by
  rcases h with ⟨rfl, rfl⟩ | ⟨g', cap, rfl, h⟩
  · cases hg
  · obtain ⟨cs, h1, _⟩ := h.row
    exact ⟨cs, by rw [← Option.some.inj hg]; exact h1⟩
theorem QZ.fr {P : Nat → Prop} {w w' : World} {v : Value} {es : List En} (h : QZ w v es) (hf : Fr P w w') (hv : ∀ g, v.ownBlock = some g → ¬ P g) (he : ∀ k (hk : k < es.length), ¬ P es[k].b) : QZ w' v es := by
  rcases h with h | ⟨g, cap, rfl, h⟩
  · exact .inl h
  · exact .inr ⟨g, cap, rfl, h.fr hf (hv g rfl) he⟩
theorem ne_type {w : World} {b c : Nat} {cs ds : Array Value} {t u : TypeId} (h : w.heap[b]? = some (.cells cs t (0, 0))) (h' : w.heap[c]? = some (.cells ds u (0, 0))) (hne : t ≠ u) : b ≠ c := fun e => by
  subst e
  rw [h] at h'
  injection h' with h1
  injection h1 with _ h2
  exact hne h2
theorem ne_map {w : World} {b c n : Nat} {cs : Array Value} {t : TypeId} {D : DataW Value} (h : w.heap[b]? = some (.cells cs t (0, 0))) (h' : MapAt w c n D) : b ≠ c := fun e => by
  subst e
  obtain ⟨es, clock, hb, _⟩ := h'
  rw [h] at hb
  cases hb
/-- An agenda in memory: its block, its row of entries, its map. -/
structure AgS (w : World) (A : Nat) (most last : Int) (es : List En) (v : Value) (mb n : Nat) (D : DataW Value) : Prop where
  box : w.heap[A]? = some (.cells #[.int .i64 most, .int .i64 last, v, .map (some mb)] 82 (0, 0))
  q : QZ w v es
  map : MapAt w mb n D
  here : ∀ e ∈ es, lookD D e.tk = some (.pointer (some ⟨e.b, 0, none⟩))
  gone : ∀ t, (∀ e ∈ es, e.tk ≠ t) → lookD D t = none
section
variable {w : World} {A : Nat} {most last : Int} {es : List En} {v : Value} {mb n : Nat} {D : DataW Value}
theorem AgS.A_e (h : AgS w A most last es v mb n D) (k : Nat) (hk : k < es.length) : es[k].b ≠ A := ne_type (h.q.ents k hk) h.box (by decide)
theorem AgS.v_A (h : AgS w A most last es v mb n D) : v.ownBlock ≠ some A := fun e => by
  obtain ⟨cs, h1⟩ := h.q.row e
  exact ne_type h1 h.box (by decide) rfl
theorem AgS.v_e (h : AgS w A most last es v mb n D) (k : Nat) (hk : k < es.length) : v.ownBlock ≠ some es[k].b := fun e => by
  obtain ⟨cs, h1⟩ := h.q.row e
  exact ne_type h1 (h.q.ents k hk) (by decide) rfl
theorem AgS.mb_A (h : AgS w A most last es v mb n D) : A ≠ mb := ne_map h.box h.map
theorem AgS.mb_e (h : AgS w A most last es v mb n D) (k : Nat) (hk : k < es.length) : es[k].b ≠ mb := ne_map (h.q.ents k hk) h.map
theorem AgS.v_mb (h : AgS w A most last es v mb n D) : v.ownBlock ≠ some mb := fun e => by
  obtain ⟨cs, h1⟩ := h.q.row e
  exact ne_map h1 h.map rfl
theorem AgS.fr {P : Nat → Prop} {w' : World} (h : AgS w A most last es v mb n D) (hf : Fr P w w') (hA : ¬ P A) (hm : ¬ P mb) (hv : ∀ g, v.ownBlock = some g → ¬ P g) (he : ∀ k (hk : k < es.length), ¬ P es[k].b) : AgS w' A most last es v mb n D :=
  ⟨(hf.same A (Array.getElem?_eq_some_iff.1 h.box).1 hA).trans h.box, h.q.fr hf hv he, MapAt.fr h.map hf hm, h.here, h.gone⟩
end
/-- An agenda that holds these things, within blocks of its own. -/
def AgAt (w : World) (A : Nat) (most last : Int) (L : List Th) (F : Nat → Prop) : Prop := ∃ es v mb n D, AgS w A most last es v mb n D ∧ Ab es L last ∧ (n : Int) ≤ last ∧ (es.length : Int) ≤ most ∧ most ≤ 65536 ∧ F A ∧ F mb ∧ (∀ g, v.ownBlock = some g → F g) ∧ (∀ k (hk : k < es.length), F es[k].b) ∧ ∀ b, F b → b < w.heap.size
theorem AgAt.fr {w w' : World} {A : Nat} {most last : Int} {L : List Th} {F P : Nat → Prop} (h : AgAt w A most last L F) (hf : Fr P w w') (hF : ∀ b, F b → ¬ P b) : AgAt w' A most last L F := by
  obtain ⟨es, v, mb, n, D, h1, h2, h3, h4, h5, f1, f2, f3, f4, f5⟩ := h
  exact ⟨es, v, mb, n, D, h1.fr hf (hF _ f1) (hF _ f2) (fun g hg => hF _ (f3 g hg)) (fun k hk => hF _ (f4 k hk)), h2, h3, h4, h5, f1, f2, f3, f4, fun b hb => Nat.lt_of_lt_of_le (f5 b hb) hf.low.size⟩
theorem AgAt.below {w w' : World} {A : Nat} {most last : Int} {L : List Th} {F : Nat → Prop} (h : AgAt w A most last L F) (hb : Below w.heap.size w w') : AgAt w' A most last L F := h.fr (Fr.of_below (A := fun _ => False) hb) (fun _ _ hx => hx)
theorem AgAt.drew {w : World} {A : Nat} {most last : Int} {L : List Th} {F : Nat → Prop} (h : AgAt w A most last L F) : AgAt w.drew A most last L F := h.below ((Below.refl _ w).drew)
theorem AgAt.len {w : World} {A : Nat} {most last : Int} {L : List Th} {F : Nat → Prop} (h : AgAt w A most last L F) : (L.length : Int) ≤ most ∧ most ≤ 65536 := by
  obtain ⟨es, v, mb, n, D, h1, h2, h3, h4, h5, _⟩ := h
  rw [← h2.len]
  exact ⟨h4, h5⟩
theorem len_run (A : Nat) (p : Option Addr) (n c : Nat) (w : World) (h : w.cell? ⟨A, 2, none⟩ = some (.slice p n c)) : Calls Try.prog 18 #[.pointer (some ⟨A, 0, none⟩)] w fun e w' => e = .returned (.int .i64 n) ∧ w' = w := by
  go_enter Try.func18, Try.ntmps18
  go_wp2
  go_ret
  exact ⟨rfl, rfl⟩
theorem aLen_any {w : World} {A : Nat} {most last : Int} {L : List Th} {F : Nat → Prop} (h : AgAt w A most last L F) : Calls Try.prog 18 #[.pointer (some ⟨A, 0, none⟩)] w fun e w' => e = .returned (.int .i64 L.length) ∧ w' = w := by
  obtain ⟨es, v, mb, n, D, h1, h2, _⟩ := h
  obtain ⟨p, c, rfl⟩ := h1.q.form
  rw [← h2.len]
  exact len_run A p es.length c w (cell_box h1.box rfl)
end Go.Proofs.Ytchjdpmgocapjaa
