/- What Way keeps as it goes: its boxes, the binds under way. -/
import Derived.Test.YtplekhfnidhcoaaUnG
import Derived.Test.YtplekhfnidhcoaaUnC
namespace Go.Proofs.Ytplekhfnidhcoaa
open Go.RowKit Go.Shelf Go.Deep

theorem Box.fr {A : Nat → Prop} {W W' : World} {B : Nat} {T : TypeId} {cs : Array Value} (h : Box W B T cs) (hf : Fr A W W') (hA : ¬ A B) : Box W' B T cs := (hf.same B h.lt hA).trans h
theorem fr_grown {W W' : World} {o : Option Nat} (h : W.grownBy W' o) : Fr (fun q => o = some q) W W' := ⟨⟨h.os, h.tape, h.output, h.size, fun k hk => absurd hk (Nat.not_lt_zero k)⟩, fun k hk hn => h.block k hk (fun e => hn e.symm)⟩
theorem BOwn.fr {A : Nat → Prop} {W W' : World} {base : Nat} {v : Value} {l : List Bl} (h : BOwn W base v l) (hf : Fr A W W') (hv : ∀ g, v.ownBlock = some g → ¬ A g) : BOwn W' base v l := by
  refine ⟨h.1, ?_⟩
  rcases h.2 with h1 | ⟨g, cap, cur, rfl, h2, h3, h4⟩
  · exact .inl h1
  · exact .inr ⟨g, cap, cur, rfl, h2, (hf.same g (Array.getElem?_eq_some_iff.1 h3).1 (hv g rfl)).trans h3, h4⟩
theorem BOwn.ne {W : World} {base : Nat} {v : Value} {l : List Bl} (h : BOwn W base v l) {B : Nat} {o : Obj} (hB : W.heap[B]? = some o) (ho : ∀ cur, o ≠ .cells cur 44 (0, 0)) : v.ownBlock ≠ some B := fun e => by
  rcases h.2 with ⟨h1, _⟩ | ⟨g, cap, cur, h1, _, h3, _⟩
  · rw [h1] at e; cases e
  · rw [h1] at e
    cases e
    rw [h3] at hB
    exact ho cur (Option.some.inj hB).symm
theorem BOwn.ge {W : World} {base : Nat} {v : Value} {l : List Bl} (h : BOwn W base v l) {g : Nat} (hg : v.ownBlock = some g) : base ≤ g ∧ g < W.heap.size := by
  rcases h.2 with ⟨h1, _⟩ | ⟨g', cap, cur, h1, h2, h3, _⟩
  · rw [h1] at hg; cases hg
  · rw [h1] at hg; cases hg
    exact ⟨h2, (Array.getElem?_eq_some_iff.1 h3).1⟩
theorem bOwn_nil (W : World) (base : Nat) : BOwn W base (.slice none 0 0) [] := ⟨rfl, .inl ⟨rfl, rfl⟩⟩
theorem BOwn.below {W W' : World} {base : Nat} {v : Value} {l : List Bl} (h : BOwn W base v l) (hb : Below W.heap.size W W') : BOwn W' base v l := h.fr (Fr.of_below (A := fun _ => False) hb) (fun _ _ hx => hx)
theorem BOwn.drew {W : World} {base : Nat} {v : Value} {l : List Bl} (h : BOwn W base v l) : BOwn W.drew base v l := h
/-- The binds, as a row to be turned round. -/
theorem BOwn.rw {W : World} {base g n cap : Nat} {l : List Bl} (h : BOwn W base (.slice (some ⟨g, 0, none⟩) n cap) l) : Rw blC W g cap l := by
  rcases h.2 with ⟨h1, _⟩ | ⟨g', cap', cur, h1, h2, h3, h4, h5, h6, h7⟩
  · cases h1
  · cases h1
    exact ⟨⟨cur, h3, h6, h7⟩, h4, h5⟩
theorem own_of_rw {W : World} {base g cap : Nat} {l : List Bl} (h : Rw blC W g cap l) (hg : base ≤ g) : BOwn W base (.slice (some ⟨g, 0, none⟩) l.length cap) l := by
  obtain ⟨cur, h1, h2, h3⟩ := h.row
  exact ⟨(blAll_len l), .inr ⟨g, cap, cur, rfl, hg, h1, h.fits, h.small, h2, h3⟩⟩
theorem BOwn.cases {W : World} {base : Nat} {v : Value} {l : List Bl} (h : BOwn W base v l) : (v = .slice none 0 0 ∧ l = []) ∨ ∃ g cap, v = .slice (some ⟨g, 0, none⟩) l.length cap ∧ base ≤ g := by
  rcases h.2 with ⟨h1, h2⟩ | ⟨g, cap, cur, h1, h2, _⟩
  · exact .inl ⟨h1, List.eq_nil_of_length_eq_zero h2⟩
  · exact .inr ⟨g, cap, h1, h2⟩
/-- What stays as it was made. -/
structure WayK (Y : Nat) (w : World) (us : List Int) (pu : Option Addr) (cu : Nat) (pv : Option Addr) (n cv D : Nat) (W : World) : Prop where
  y0 : Box W Y 29 #[.slice pu us.length cu]
  y3 : Box W (Y + 3) 3 #[.int .i64 ((us.length : Int) + 1)]
  y4 : Box W (Y + 4) 33 #[.slice pv n cv]
  df : W.heap[D]? = some (.deferred (some []))
  low : Below Y w W
/-- And what is under way. -/
structure WaySt (Y : Nat) (w : World) (us : List Int) (pu : Option Addr) (cu : Nat) (pv : Option Addr) (n cv D : Nat) (W : World) (v : Value) (acc : List Bl) (r : Int) : Prop where
  k : WayK Y w us pu cu pv n cv D W
  y1 : Box W (Y + 1) 34 #[v]
  y2 : Box W (Y + 2) 3 #[.int .i64 r]
  row : BOwn W Y v acc
theorem WaySt.fr {Y : Nat} {w : World} {us : List Int} {pu : Option Addr} {cu : Nat} {pv : Option Addr} {n cv D : Nat} {W : World} {v : Value} {acc : List Bl} {r : Int} (h : WaySt Y w us pu cu pv n cv D W v acc r) {A : Nat → Prop} {W' : World} (hf : Fr A W W')
    (hA : ∀ q, A q → Y + 4 < q ∧ q ≠ D ∧ v.ownBlock ≠ some q) : WaySt Y w us pu cu pv n cv D W' v acc r := by
  have hYW : Y ≤ W.heap.size := Nat.le_trans (by omega) (Nat.le_of_lt h.k.y4.lt)
  exact ⟨⟨h.k.y0.fr hf (fun a => by have := hA _ a; omega), h.k.y3.fr hf (fun a => by have := hA _ a; omega), h.k.y4.fr hf (fun a => by have := hA _ a; omega),
    (hf.same D (Array.getElem?_eq_some_iff.1 h.k.df).1 (fun a => (hA _ a).2.1 rfl)).trans h.k.df, h.k.low.trans (hf.below (fun q hq => by have := hA q hq; omega) hYW)⟩,
    h.y1.fr hf (fun a => by have := hA _ a; omega), h.y2.fr hf (fun a => by have := hA _ a; omega), h.row.fr hf (fun g hg a => (hA g a).2.2 hg)⟩
theorem WaySt.put {Y : Nat} {w : World} {us : List Int} {pu : Option Addr} {cu : Nat} {pv : Option Addr} {n cv D : Nat} {W : World} {v : Value} {acc : List Bl} {r : Int} (h : WaySt Y w us pu cu pv n cv D W v acc r) {L : Nat} {l : Loop} (hl : W.heap[L]? = some (.loop l)) (hL : Y + 4 < L) (hD : L ≠ D) (o : Obj) : WaySt Y w us pu cu pv n cv D (W.putObj L o) v acc r :=
  h.fr (fr_one L o) (fun q hq => by subst hq; exact ⟨hL, hD, h.row.ne hl (fun cur e => by cases e)⟩)
theorem WaySt.rest {Y : Nat} {w : World} {us : List Int} {pu : Option Addr} {cu : Nat} {pv : Option Addr} {n cv D : Nat} {W : World} {v : Value} {acc : List Bl} {r : Int} (h : WaySt Y w us pu cu pv n cv D W v acc r) (hD : Y + 4 < D) (r' : Int) : WaySt Y w us pu cu pv n cv D (W.setCell ⟨Y + 2, 0, none⟩ (.int .i64 r')) v acc r' := by
  have hYW : Y ≤ W.heap.size := Nat.le_trans (by omega) (Nat.le_of_lt h.k.y4.lt)
  have hf := fr_set W (Y + 2) 0 (.int .i64 r')
  exact ⟨⟨h.k.y0.far (by omega) 0 _, h.k.y3.far (by omega) 0 _, h.k.y4.far (by omega) 0 _, (set_far (by omega) _).trans h.k.df, h.k.low.trans (hf.below (fun q hq => by omega) hYW)⟩,
    h.y1.far (by omega) 0 _, h.y2.set 0 _, h.row.fr hf (fun g hg a => by subst a; exact h.row.ne h.y2 (fun cur e => by injection e with _ e; exact absurd e (by decide)) hg)⟩
/-- One bind more. -/
theorem WaySt.app {Y : Nat} {w : World} {us : List Int} {pu : Option Addr} {cu : Nat} {pv : Option Addr} {n cv D : Nat} {W : World} {v : Value} {acc : List Bl} {r : Int} (h : WaySt Y w us pu cu pv n cv D W v acc r) (hD : Y + 4 < D) {W3 : World} (hf : Fr (fun q => v.ownBlock = some q) W W3) {v' : Value} {acc' : List Bl} (hv' : BOwn W3 Y v' acc') : WaySt Y w us pu cu pv n cv D (W3.setCell ⟨Y + 1, 0, none⟩ v') v' acc' r := by
  have hYW : Y ≤ W.heap.size := Nat.le_trans (by omega) (Nat.le_of_lt h.k.y4.lt)
  have n0 := h.row.ne h.k.y0 (fun cur e => by injection e with _ e; exact absurd e (by decide))
  have n1 := h.row.ne h.y1 (fun cur e => by injection e with _ e; exact absurd e (by decide))
  have n2 := h.row.ne h.y2 (fun cur e => by injection e with _ e; exact absurd e (by decide))
  have n3 := h.row.ne h.k.y3 (fun cur e => by injection e with _ e; exact absurd e (by decide))
  have n4 := h.row.ne h.k.y4 (fun cur e => by injection e with _ e; exact absurd e (by decide))
  have nD := h.row.ne h.k.df (fun cur e => by cases e)
  have b1 := h.y1.fr hf n1
  have hf2 := fr_set W3 (Y + 1) 0 v'
  have hlow : Below Y W W3 := hf.below (fun q hq => (h.row.ge hq).1) hYW
  exact ⟨⟨(h.k.y0.fr hf n0).far (by omega) 0 _, (h.k.y3.fr hf n3).far (by omega) 0 _, (h.k.y4.fr hf n4).far (by omega) 0 _, (set_far (by omega) _).trans ((hf.same D (Array.getElem?_eq_some_iff.1 h.k.df).1 nD).trans h.k.df), (h.k.low.trans hlow).trans (hf2.below (fun q hq => by omega) (Nat.le_trans hYW hlow.size))⟩,
    b1.set 0 _, (h.y2.fr hf n2).far (by omega) 0 _, hv'.fr hf2 (fun g hg a => by subst a; exact hv'.ne b1 (fun cur e => by injection e with _ e; exact absurd e (by decide)) hg)⟩
end Go.Proofs.Ytplekhfnidhcoaa
