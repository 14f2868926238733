/- What a deed leaves. -/
import Derived.Test.YtokbgbbkopmngaaGreatDvC
import Derived.Test.YtokbgbbkopmngaaGreatDvD
namespace Go.Proofs.YtokbgbbkopmngaaGreat
open Go.RowKit Go.Deep

/-- A node at a place: its cells lie within a row's, its list's blocks are A. -/
structure Pl (w : World) (b o : Nat) (A : Bl) (x : ByteArray × Int) (a : Option Addr) (c : Nat) (ks : List Kv) (cur : Array Value) : Prop where
  blk : w.heap[b]? = some (.cells cur 26 (0, 0))
  c0 : cur[o]? = some (.string x.1)
  c1 : cur[o + 1]? = some (.int .i64 x.2)
  c2 : cur[o + 2]? = some (.slice a ks.length c)
  row : RowOf w A a c ks
  out : ¬ A b
  nm : x.1.size ≤ maxLen
theorem Pl.nd {w : World} {b o : Nat} {A : Bl} {x : ByteArray × Int} {a : Option Addr} {c : Nat} {ks : List Kv} {cur : Array Value} (h : Pl w b o A x a c ks cur) : Nd w b o x a ks.length c := ⟨cell_box h.blk h.c0, cell_box h.blk h.c1, cell_box h.blk h.c2⟩
theorem Pl.lt {w : World} {b o : Nat} {A : Bl} {x : ByteArray × Int} {a : Option Addr} {c : Nat} {ks : List Kv} {cur : Array Value} (h : Pl w b o A x a c ks cur) : b < w.heap.size := (Array.getElem?_eq_some_iff.1 h.blk).1
theorem Pl.f {w : World} {b o : Nat} {A : Bl} {x : ByteArray × Int} {a : Option Addr} {c : Nat} {ks : List Kv} {cur : Array Value} (h : Pl w b o A x a c ks cur) (k : Nat) : w.frozen? ⟨b, k, none⟩ = false := by simp [World.frozen?, h.blk]
theorem Pl.keep {w w' : World} {b o : Nat} {A : Bl} {x : ByteArray × Int} {a : Option Addr} {c : Nat} {ks : List Kv} {cur : Array Value} (h : Pl w b o A x a c ks cur) (hb : w'.heap[b]? = w.heap[b]?) (hp : ∀ k, A k → k < w.heap.size → w'.heap[k]? = w.heap[k]?) : Pl w' b o A x a c ks cur :=
  ⟨hb.trans h.blk, h.c0, h.c1, h.c2, h.row.keep hp, h.out, h.nm⟩
theorem Pl.below {w w' : World} {b o : Nat} {A : Bl} {x : ByteArray × Int} {a : Option Addr} {c : Nat} {ks : List Kv} {cur : Array Value} (h : Pl w b o A x a c ks cur) (hb : Below w.heap.size w w') : Pl w' b o A x a c ks cur := h.keep (hb.block b h.lt) (fun k _ hk => hb.block k hk)
/-- Nothing that there was has turned but the node's cells and blocks of A; the node is another one. -/
structure Upd (w w' : World) (b o : Nat) (A : Bl) (cur : Array Value) (A' : Bl) (x : ByteArray × Int) (a : Option Addr) (c : Nat) (ks : List Kv) : Prop where
  low : Below 0 w w'
  same : ∀ q, q < w.heap.size → ¬ A q → q ≠ b → w'.heap[q]? = w.heap[q]?
  new : ∀ q, A' q → A q ∨ w.heap.size ≤ q
  node : ∃ cur', cur'.size = cur.size ∧ (∀ k, k < o ∨ o + 3 ≤ k → cur'[k]? = cur[k]?) ∧ Pl w' b o A' x a c ks cur'
theorem Upd.keep {w w1 w2 : World} {b o : Nat} {A A' : Bl} {cur : Array Value} {x : ByteArray × Int} {a : Option Addr} {c : Nat} {ks : List Kv} (h : Upd w w1 b o A cur A' x a c ks) (hl : Below 0 w1 w2) (hk : ∀ q, q < w.heap.size ∨ A' q → w2.heap[q]? = w1.heap[q]?) (hb : b < w.heap.size) : Upd w w2 b o A cur A' x a c ks := by
  obtain ⟨cur', h1, h2, h3⟩ := h.node
  exact ⟨h.low.trans hl, fun q hq hA hne => (hk q (.inl hq)).trans (h.same q hq hA hne), h.new, cur', h1, h2, h3.keep (hk b (.inl hb)) (fun k hk' _ => hk k (.inr hk'))⟩
/-- What a deed answers and leaves. -/
def DeedEnd (w : World) (b o : Nat) (A : Bl) (cur : Array Value) (r : Option (Tn × Sp)) (e : Ending) (w' : World) : Prop := match r with
  | none => e = .returned (.tuple #[stepV zSp none 0 0, .bool false]) ∧ Below w.heap.size w w'
  | some r => e = .returned (.tuple #[stepV r.2 none 0 0, .bool true]) ∧ ∃ A' a c ks, ks.map Kv.tn = kidsL r.1.2 ∧ Upd w w' b o A cur A' r.1.1 a c ks
theorem DeedEnd.not {w : World} {b o : Nat} {A : Bl} {cur : Array Value} {r : Option (Tn × Sp)} {w' : World} (hr : r = none) (hb : Below w.heap.size w w') : DeedEnd w b o A cur r (.returned (.tuple #[stepV zSp none 0 0, .bool false])) w' := by subst hr; exact ⟨rfl, hb⟩
theorem DeedEnd.yes {w : World} {b o : Nat} {A : Bl} {cur : Array Value} {r : Option (Tn × Sp)} {w' : World} {t : Tn} {q : Sp} {A' : Bl} {a : Option Addr} {c : Nat} {ks : List Kv} (hr : r = some (t, q)) (hk : ks.map Kv.tn = kidsL t.2) (hu : Upd w w' b o A cur A' t.1 a c ks) : DeedEnd w b o A cur r (.returned (.tuple #[stepV q none 0 0, .bool true])) w' := by subst hr; exact ⟨rfl, A', a, c, ks, hk, hu⟩
/-- From what lay leaves. -/
theorem upd_lay {w W W' : World} {b o : Nat} {A B : Bl} {x : ByteArray × Int} {a : Option Addr} {c : Nat} {ks ks' : List Kv} {cur : Array Value} (hP : Pl w b o A x a c ks cur) (hb : Below w.heap.size w W) (hL : LayEnd W b o cur a ks' W') (hG : GL FulE W ks' B)
    (hB : ∀ q, B q → q < W.heap.size ∧ (a.map Addr.block ≠ some q) ∧ q ≠ b ∧ (A q ∨ w.heap.size ≤ q)) (hf : ks'.length * 48 ≤ 140737488351232) :
    ∃ g' c' : Nat, (a.map Addr.block = some g' ∨ W.heap.size ≤ g') ∧ Upd w W' b o A cur (fun q => B q ∨ q = g') x (some ⟨g', 0, none⟩) c' ks' := by
  obtain ⟨g', c', hR, hbk, hF, hg⟩ := hL
  have hab : ∀ q, a.map Addr.block = some q → A q := fun q hq => by
    rcases hP.row.row with ⟨_, h2, _⟩ | ⟨g, h1, h2, _⟩
    · rw [h2] at hq; cases hq
    · rw [h1] at hq; cases hq; exact h2
  have hsz := hb.size
  have hblt := hP.lt
  have hg'b : g' ≠ b := by
    rcases hg with h | h
    · intro e; exact hP.out (e ▸ hab g' h)
    · omega
  refine ⟨g', c', hg, (hb.mono (Nat.zero_le _)).trans hF.low, fun q hq hA hne => ?_, fun q hq => ?_, _, by simp, fun k hk => ?_, hbk, ?_, ?_, ?_, ⟨hf, .inr ⟨g', rfl, .inr rfl, hR, ?_⟩⟩, ?_, hP.nm⟩
  · refine (hF.same q (by omega) ?_).trans (hb.block q hq)
    rintro (h | h)
    · exact hA (hab q h)
    · exact hne h
  · rcases hq with h | h
    · exact (hB q h).2.2.2
    · subst h
      rcases hg with h | h
      · exact .inl (hab q h)
      · exact .inr (by omega)
  · rw [Array.getElem?_setIfInBounds, if_neg (by omega)]
  · rw [Array.getElem?_setIfInBounds, if_neg (by omega)]; exact hP.c0
  · rw [Array.getElem?_setIfInBounds, if_neg (by omega)]; exact hP.c1
  · have := (Array.getElem?_eq_some_iff.1 hP.c2).1
    rw [Array.getElem?_setIfInBounds, if_pos rfl, if_pos this]
  · refine (hG.keep fulE (fun q hq hlt => hF.same q hlt ?_)).mono (fun q hq => ⟨.inl hq, ?_⟩)
    · rintro (h | h)
      · exact (hB q hq).2.1 h
      · exact (hB q hq).2.2.1 h
    · rcases hg with h | h
      · intro e; subst e; exact (hB q hq).2.1 h
      · have := (hB q hq).1; omega
  · rintro (h | h)
    · exact (hB b h).2.2.1 rfl
    · exact hg'b h.symm
/-- A deed's three boxes. -/
structure Tri (w : World) (cs ds : Array Value) (W : World) : Prop where
  low : Below w.heap.size w W
  l : Box W w.heap.size 76 cs
  r : Box W (w.heap.size + 1) 47 ds
  z : Box W (w.heap.size + 2) 47 (stepC zSp none 0 0)
theorem Tri.new (w : World) (cs ds : Array Value) : Tri w cs ds (((w.alloc (.cells cs 76)).alloc (.cells ds 47)).alloc (.cells (stepC zSp none 0 0) 47)) := by
  refine ⟨((alloc_below0 w _).alloc (by simp) _).alloc (by simp; omega) _, ((Box.new w 76 cs).over _).over _, (box_new (by rw [World.size_alloc]) 47 ds).over _, box_new (by rw [World.size_alloc, World.size_alloc]) 47 _⟩
theorem sets5_box {W : World} {B : Nat} {y0 y1 y2 y3 y4 : Value} (h : Box W B 47 #[y0, y1, y2, y3, y4]) (x0 x1 x2 x3 x4 : Value) : Box (((((W.setCell ⟨B, 0, none⟩ x0).setCell ⟨B, 1, none⟩ x1).setCell ⟨B, 2, none⟩ x2).setCell ⟨B, 3, none⟩ x3).setCell ⟨B, 4, none⟩ x4) B 47 #[x0, x1, x2, x3, x4] := by
  have h0 : Box (W.setCell ⟨B, 0, none⟩ x0) B 47 #[x0, y1, y2, y3, y4] := block_set (k := 0) h x0
  have h1 : Box ((W.setCell ⟨B, 0, none⟩ x0).setCell ⟨B, 1, none⟩ x1) B 47 #[x0, x1, y2, y3, y4] := block_set (k := 1) h0 x1
  have h2 : Box (((W.setCell ⟨B, 0, none⟩ x0).setCell ⟨B, 1, none⟩ x1).setCell ⟨B, 2, none⟩ x2) B 47 #[x0, x1, x2, y3, y4] := block_set (k := 2) h1 x2
  generalize ((W.setCell ⟨B, 0, none⟩ x0).setCell ⟨B, 1, none⟩ x1).setCell ⟨B, 2, none⟩ x2 = W1 at h2 ⊢
  have h3 : Box (W1.setCell ⟨B, 3, none⟩ x3) B 47 #[x0, x1, x2, x3, y4] := block_set (k := 3) h2 x3
  exact block_set (k := 4) h3 x4
theorem sets5_far {W : World} {B q : Nat} (h : q ≠ B) (x0 x1 x2 x3 x4 : Value) : (((((W.setCell ⟨B, 0, none⟩ x0).setCell ⟨B, 1, none⟩ x1).setCell ⟨B, 2, none⟩ x2).setCell ⟨B, 3, none⟩ x3).setCell ⟨B, 4, none⟩ x4).heap[q]? = W.heap[q]? :=
  ((((Below.heap_setCell _ _ _ _ h).trans (Below.heap_setCell _ _ _ _ h)).trans (Below.heap_setCell _ _ _ _ h)).trans (Below.heap_setCell _ _ _ _ h)).trans (Below.heap_setCell _ _ _ _ h)
theorem sets5_below {n0 : Nat} {w W : World} {B : Nat} (hb : Below n0 w W) (h : n0 ≤ B) (x0 x1 x2 x3 x4 : Value) : Below n0 w (((((W.setCell ⟨B, 0, none⟩ x0).setCell ⟨B, 1, none⟩ x1).setCell ⟨B, 2, none⟩ x2).setCell ⟨B, 3, none⟩ x3).setCell ⟨B, 4, none⟩ x4) :=
  ((((hb.setCell (p := ⟨B, 0, none⟩) h _).setCell (p := ⟨B, 1, none⟩) h _).setCell (p := ⟨B, 2, none⟩) h _).setCell (p := ⟨B, 3, none⟩) h _).setCell (p := ⟨B, 4, none⟩) h _
set_option maxRecDepth 100000 in
/-- A step and a Boolean, in the box that is the function's. -/
theorem ret_step {fn : Func} {R : Ending → World → Prop} {a : Act} {w : World} {p u B : Nat} {cs : Array Value} (h : fn.results = #[.cell p 47, .tmp u]) (hp : a.tmps.getD p undef = .pointer (some ⟨B, 0, none⟩))
    (hx : Box w B 47 cs) (hcs : cs.size = 5) (hd : a.defers = []) (hR : R (.returned (.tuple #[.agg cs, a.tmps.getD u undef])) w) : bodyPost Tryz.prog fn R .ret a w := by
  refine bodyPost_ret ?_ hd hR
  rw [results_cell_tmp h, hp]
  rw [show (asAddr (.pointer (some ⟨B, 0, none⟩))).run Tryz.prog w = .ok ⟨B, 0, none⟩ w from rfl]
  simp only [Result.andThen_ok, run_loadVar_row w B 47 47 _ (0, 0) _ hx Tryz.underlying47 rfl (by rw [Tryz.size47, hcs])]
end Go.Proofs.YtokbgbbkopmngaaGreat
