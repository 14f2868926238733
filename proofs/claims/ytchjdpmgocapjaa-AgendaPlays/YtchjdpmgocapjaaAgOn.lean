/- A call of both agendas: the memory. -/
import Derived.Test.YtchjdpmgocapjaaAgRg
import Derived.Test.YtchjdpmgocapjaaAgSp
namespace Go.Proofs.Ytchjdpmgocapjaa
open Go.RowKit Go.Shelf

/-- The program's agenda and the document's, alike, within blocks of their own. -/
structure Tw (w : World) (A B : Nat) (most last : Int) (L : List Th) (F G : Nat → Prop) : Prop where
  a : AgAt w A most last L F
  b : RAt w B most last L G
  ab : ∀ q, F q → ¬ G q
/-- What a call of both leaves. -/
def TwEnd (w w' : World) (A B : Nat) (most last : Int) (L : List Th) (F G : Nat → Prop) : Prop := ∃ F' G', Tw w' A B most last L F' G' ∧ Fr (fun q => F q ∨ G q) w w' ∧ (∀ q, F' q → F q ∨ w.heap.size ≤ q) ∧ ∀ q, G' q → G q ∨ w.heap.size ≤ q
/-- .. while it goes on: the operation's box, the result's. -/
structure OW (w0 w : World) (F0 G0 : Nat → Prop) (A B bo br : Nat) (wh : Bool) (k x wt most lA : Int) (LA : List Th) (lB : Int) (LB : List Th) (F G : Nat → Prop) : Prop where
  o : w.heap[bo]? = some (.cells #[.bool wh, .int .i64 k, .int .i64 x, .int .i64 wt] 46 (0, 0))
  r : w.heap[br]? = some (.cells #[.bool false] 4 (0, 0))
  a : AgAt w A most lA LA F
  b : RAt w B most lB LB G
  ab : ∀ q, F q → ¬ G q
  far : ¬ F bo ∧ ¬ F br ∧ ¬ G bo ∧ ¬ G br
  ge : w0.heap.size ≤ bo ∧ w0.heap.size ≤ br
  fa : ∀ q, F q → F0 q ∨ w0.heap.size ≤ q
  ga : ∀ q, G q → G0 q ∨ w0.heap.size ≤ q
  fr : Fr (fun q => F0 q ∨ G0 q) w0 w
section
variable {w0 w w' : World} {F0 G0 : Nat → Prop} {A B bo br : Nat} {wh : Bool} {k x wt most lA : Int} {LA : List Th} {lB : Int} {LB : List Th} {F G : Nat → Prop}
theorem fr_up {P Q : Nat → Prop} {a b c : World} (h : Fr P a b) (k : Fr Q b c) (hq : ∀ q, Q q → P q ∨ a.heap.size ≤ q) : Fr P a c :=
  ⟨h.low.trans k.low, fun q hl hn => (k.same q (Nat.lt_of_lt_of_le hl h.low.size) (fun hx => by
    rcases hq q hx with h9 | h9
    · exact hn h9
    · omega)).trans (h.same q hl hn)⟩
theorem OW.opA (h : OW w0 w F0 G0 A B bo br wh k x wt most lA LA lB LB F G) {l' : Int} {L' : List Th} (he : AgEnd w w' A most l' L' F) : ∃ F', OW w0 w' F0 G0 A B bo br wh k x wt most l' L' lB LB F' G := by
  obtain ⟨F', h1, h2, h3⟩ := he
  have s := h.fr.low.size
  have lo := (Array.getElem?_eq_some_iff.1 h.o).1
  have lr := (Array.getElem?_eq_some_iff.1 h.r).1
  refine ⟨F', (h2.same _ lo h.far.1).trans h.o, (h2.same _ lr h.far.2.1).trans h.r, h1, h.b.fr h2 (fun q hq hx => h.ab q hx hq), fun q hq hx => ?_, ⟨fun hx => ?_, fun hx => ?_, h.far.2.2⟩, h.ge, fun q hq => ?_, h.ga, fr_up h.fr h2 (fun q hq => (h.fa q hq).imp .inl id)⟩
  · rcases h3 q hq with h4 | h4
    · exact h.ab q h4 hx
    · have := h.b.lt q hx; omega
  · rcases h3 _ hx with h4 | h4
    · exact h.far.1 h4
    · omega
  · rcases h3 _ hx with h4 | h4
    · exact h.far.2.1 h4
    · omega
  · rcases h3 q hq with h4 | h4
    · exact h.fa q h4
    · exact .inr (by omega)
theorem OW.opB (h : OW w0 w F0 G0 A B bo br wh k x wt most lA LA lB LB F G) {l' : Int} {L' : List Th} (he : REnd w w' B most l' L' G) : ∃ G', OW w0 w' F0 G0 A B bo br wh k x wt most lA LA l' L' F G' := by
  obtain ⟨G', h1, h2, h3⟩ := he
  have s := h.fr.low.size
  have lo := (Array.getElem?_eq_some_iff.1 h.o).1
  have lr := (Array.getElem?_eq_some_iff.1 h.r).1
  refine ⟨G', (h2.same _ lo h.far.2.2.1).trans h.o, (h2.same _ lr h.far.2.2.2).trans h.r, h.a.fr h2 (fun q hq hx => h.ab q hq hx), h1, fun q hq hx => ?_, ⟨h.far.1, h.far.2.1, fun hx => ?_, fun hx => ?_⟩, h.ge, h.fa, fun q hq => ?_, fr_up h.fr h2 (fun q hq => (h.ga q hq).imp .inr id)⟩
  · rcases h3 q hx with h4 | h4
    · exact h.ab q hq h4
    · have := h.a.lt q hq; omega
  · rcases h3 _ hx with h4 | h4
    · exact h.far.2.2.1 h4
    · omega
  · rcases h3 _ hx with h4 | h4
    · exact h.far.2.2.2 h4
    · omega
  · rcases h3 q hq with h4 | h4
    · exact h.ga q h4
    · exact .inr (by omega)
theorem OW.below (h : OW w0 w F0 G0 A B bo br wh k x wt most lA LA lB LB F G) (hb : Below w.heap.size w w') : OW w0 w' F0 G0 A B bo br wh k x wt most lA LA lB LB F G :=
  ⟨below_blk hb h.o, below_blk hb h.r, h.a.below hb, h.b.below hb, h.ab, h.far, h.ge, h.fa, h.ga, h.fr.trans (Fr.of_below hb)⟩
theorem OW.same {P : Nat → Prop} (h : OW w0 w F0 G0 A B bo br wh k x wt most lA LA lB LB F G) (hf : Fr P w w') (hP : ∀ q, P q → q ≠ bo ∧ q ≠ br ∧ ¬ F q ∧ ¬ G q ∧ w0.heap.size ≤ q) : OW w0 w' F0 G0 A B bo br wh k x wt most lA LA lB LB F G :=
  ⟨(hf.same _ (Array.getElem?_eq_some_iff.1 h.o).1 (fun hx => (hP _ hx).1 rfl)).trans h.o, (hf.same _ (Array.getElem?_eq_some_iff.1 h.r).1 (fun hx => (hP _ hx).2.1 rfl)).trans h.r, h.a.fr hf (fun q hq hx => (hP q hx).2.2.1 hq), h.b.fr hf (fun q hq hx => (hP q hx).2.2.2.1 hq), h.ab, h.far, h.ge, h.fa, h.ga, fr_up h.fr hf (fun q hq => .inr (hP q hq).2.2.2.2)⟩
/-- The end: the result is laid. -/
theorem OW.fin {l' : Int} {L' : List Th} (h : OW w0 w F0 G0 A B bo br wh k x wt most l' L' l' L' F G) (W : World) (hW : W = w.setCell ⟨br, 0, none⟩ (.bool true)) : W.heap[br]? = some (.cells #[.bool true] 4 (0, 0)) ∧ TwEnd w0 W A B most l' L' F0 G0 := by
  have hf : Fr (fun q => q = br) w W := by rw [hW]; exact fr_set _ _ _ _
  refine ⟨by rw [hW]; exact block_set h.r (.bool true), F, G, ⟨h.a.fr hf (fun q hq e => h.far.2.1 (by rw [← e]; exact hq)), h.b.fr hf (fun q hq e => h.far.2.2.2 (by rw [← e]; exact hq)), h.ab⟩, fr_up h.fr hf (fun q hq => .inr (by rw [hq]; exact h.ge.2)), h.fa, h.ga⟩
theorem ow_start (h : Tw w A B most lA LA F G) (W : World) (hW : W = (w.alloc (.cells #[.bool wh, .int .i64 k, .int .i64 x, .int .i64 wt] 46)).alloc (.cells #[.bool false] 4)) : OW w W F G A B w.heap.size (w.heap.size + 1) wh k x wt most lA LA lA LA F G := by
  have b1 := alloc_below0 w (.cells #[.bool wh, .int .i64 k, .int .i64 x, .int .i64 wt] 46)
  have n1 := World.alloc_heap_new w (.cells #[.bool wh, .int .i64 k, .int .i64 x, .int .i64 wt] 46)
  have z1 := World.size_alloc w (.cells #[.bool wh, .int .i64 k, .int .i64 x, .int .i64 wt] 46)
  generalize w.alloc (.cells #[.bool wh, .int .i64 k, .int .i64 x, .int .i64 wt] 46) = w1 at b1 n1 z1 hW
  have b2 := alloc_below0 w1 (.cells #[.bool false] 4)
  have n2 := World.alloc_heap_new w1 (.cells #[.bool false] 4)
  rw [← hW] at b2 n2
  rw [z1] at n2
  have hb : Below w.heap.size w W := b1.trans (b2.mono (by omega))
  refine ⟨below_blk b2 n1, n2, h.a.below hb, h.b.below hb, h.ab, ⟨fun hx => ?_, fun hx => ?_, fun hx => ?_, fun hx => ?_⟩, ⟨Nat.le_refl _, by omega⟩, fun q hq => .inl hq, fun q hq => .inl hq, Fr.of_below hb⟩
  · have := h.a.lt _ hx; omega
  · have := h.a.lt _ hx; omega
  · have := h.b.lt _ hx; omega
  · have := h.b.lt _ hx; omega
end
theorem AgAt.rise {w : World} {A : Nat} {most last : Int} {L : List Th} {F : Nat → Prop} (h : AgAt w A most last L F) : Rise L ∧ 0 ≤ last := by
  obtain ⟨es, v, mb, n, D, h1, h2, h3, h4, h5, _⟩ := h
  exact ⟨h2.rise, by omega⟩
end Go.Proofs.Ytchjdpmgocapjaa
