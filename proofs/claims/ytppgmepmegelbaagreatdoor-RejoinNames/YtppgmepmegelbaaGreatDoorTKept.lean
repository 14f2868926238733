/- What Kept answers of a lent term that reads as it did. -/
import Derived.Test.YtppgmepmegelbaaGreatDoorTLent
import Derived.Test.YtppgmepmegelbaaGreatDoorLater
namespace Go.Proofs.YtppgmepmegelbaaGreatDoor
open Go.RowKit Go.Deep

set_option maxRecDepth 100000 in
theorem OwnKids.drop {mk : Bool} {P : Nat → Prop} {w : World} : ∀ (i : Nat) {F : Fo} {b o : Nat}, OwnKids mk P w F b o → OwnKids mk P w (dropF i F) b (o + i * 3)
  | 0, F, b, o, h => by rw [drop_zero]; simpa using h
  | i + 1, .nil, b, o, _ => by simp [dropF, OwnKids]
  | i + 1, .node _ _ _ _ r, b, o, ⟨_, hr⟩ => by
    have := OwnKids.drop i hr
    rw [show o + 3 + i * 3 = o + (i + 1) * 3 by omega] at this
    exact this
set_option maxRecDepth 100000 in
theorem OwnKids.kid {mk : Bool} {P : Nat → Prop} {w : World} {F : Fo} {b o k : Nat} (h : OwnKids mk P w F b o) (hk : k < lenF F) : ∃ x a c l, Kid w F b o k x a c l ∧ OwnTm mk P w x a c l := by
  obtain ⟨B, O, x, l, r, hd⟩ := drop_node k F hk
  have h1 := h.drop k
  have h2 := nodes_drop k F
  rw [hd] at h1 h2
  obtain ⟨⟨a, c, h3, h4, h5, h6, h7⟩, _⟩ := h1
  have ho : OwnTm mk P w x a c l := ⟨h6, h7⟩
  exact ⟨x, a, c, l, ⟨h3, h4, h5, ho.tm, ⟨B, O, by rw [drop_succ k F hd]; exact hd⟩, by simp only [nodesF] at h2; omega⟩, ho⟩
set_option maxRecDepth 100000 in
theorem kid_same {w w' : World} {F : Fo} {b o b' o' k : Nat} {x y : ByteArray × Int} {a a' : Option Addr} {c c' : Nat} {l m : Fo} (h : Kid w F b o k x a c l) (h' : Kid w' F b' o' k y a' c' m) : y = x ∧ m = l := by
  obtain ⟨_, _, e⟩ := h.split
  obtain ⟨_, _, e'⟩ := h'.split
  rw [e] at e'
  cases e'
  exact ⟨rfl, rfl⟩

/-- The two boxes of a function of two terms. -/
structure Pair (w : World) (x : ByteArray × Int) (a : Option Addr) (n c : Nat) (y : ByteArray × Int) (b : Option Addr) (m d : Nat) (W : World) : Prop where
  low : Below w.heap.size w W
  l : TBox W w.heap.size x a n c
  r : TBox W (w.heap.size + 1) y b m d
set_option maxRecDepth 100000 in
theorem Pair.new (w : World) (x : ByteArray × Int) (a : Option Addr) (n c : Nat) (y : ByteArray × Int) (b : Option Addr) (m d : Nat) : Pair w x a n c y b m d ((w.alloc (.cells #[.string x.1, .int .i64 x.2, .slice a n c] 28)).alloc (.cells #[.string y.1, .int .i64 y.2, .slice b m d] 28)) := by
  refine ⟨((Below.refl _ w).alloc (Nat.le_refl _) _).alloc (by simp) _, (TBox.new w x a n c).below ((Below.refl _ _).alloc (Nat.le_refl _) _), ?_⟩
  have := TBox.new (w.alloc (.cells #[.string x.1, .int .i64 x.2, .slice a n c] 28)) y b m d
  rw [World.size_alloc] at this
  exact this
set_option maxRecDepth 100000 in
theorem Pair.below {w : World} {x : ByteArray × Int} {a : Option Addr} {n c : Nat} {y : ByteArray × Int} {b : Option Addr} {m d : Nat} {W W' : World} (h : Pair w x a n c y b m d W) (hb : Below W.heap.size W W') : Pair w x a n c y b m d W' :=
  ⟨h.low.trans (hb.mono h.low.size), h.l.below hb, h.r.below hb⟩

end Go.Proofs.YtppgmepmegelbaaGreatDoor
