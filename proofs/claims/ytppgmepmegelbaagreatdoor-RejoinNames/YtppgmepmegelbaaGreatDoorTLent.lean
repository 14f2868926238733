/- What Lent makes: the term in new memory, a mark behind each list. -/
import Derived.Test.YtppgmepmegelbaaGreatDoorTOwn
import Derived.Deep.RegionLaw
import Derived.Deep.AppendLies
import Derived.Deep.DeepCutAuto
import Derived.BigQuiet
namespace Go.Proofs.YtppgmepmegelbaaGreatDoor
open Go.RowKit Go.Deep

/-- A term in a box, whose list is v. -/
def XBox (W : World) (B : Nat) (x : ByteArray × Int) (v : Value) : Prop := W.heap[B]? = some (.cells #[.string x.1, .int .i64 x.2, v] 28 (0, 0))
theorem XBox.c0 {W : World} {B : Nat} {x : ByteArray × Int} {v : Value} (h : XBox W B x v) : W.cell? ⟨B, 0, none⟩ = some (.string x.1) := by simp [World.cell?, show W.heap[B]? = _ from h]
theorem XBox.c1 {W : World} {B : Nat} {x : ByteArray × Int} {v : Value} (h : XBox W B x v) : W.cell? ⟨B, 1, none⟩ = some (.int .i64 x.2) := by simp [World.cell?, show W.heap[B]? = _ from h]
theorem XBox.c2 {W : World} {B : Nat} {x : ByteArray × Int} {v : Value} (h : XBox W B x v) : W.cell? ⟨B, 2, none⟩ = some v := by simp [World.cell?, show W.heap[B]? = _ from h]
theorem XBox.f {W : World} {B k : Nat} {x : ByteArray × Int} {v : Value} (h : XBox W B x v) : W.frozen? ⟨B, k, none⟩ = false := by simp [World.frozen?, show W.heap[B]? = _ from h]
theorem XBox.lt {W : World} {B : Nat} {x : ByteArray × Int} {v : Value} (h : XBox W B x v) : B < W.heap.size := (Array.getElem?_eq_some_iff.1 h).1
theorem XBox.below {W W' : World} {B : Nat} {x : ByteArray × Int} {v : Value} (h : XBox W B x v) (hb : Below W.heap.size W W') : XBox W' B x v := (hb.block B h.lt).trans h
theorem XBox.kept {W W' : World} {row : Option Nat} {B : Nat} {x : ByteArray × Int} {v : Value} (h : XBox W B x v) (hg : W.grownBy W' row) (hne : some B ≠ row) : XBox W' B x v := (hg.block B h.lt hne).trans h
theorem XBox.set {W : World} {B : Nat} {x : ByteArray × Int} {v : Value} (h : XBox W B x v) (u : Value) : XBox (W.setCell ⟨B, 2, none⟩ u) B x u := by
  obtain ⟨hlt, hk⟩ := Array.getElem?_eq_some_iff.1 h
  show (W.heap.modify B _)[B]? = _
  rw [Array.getElem?_eq_getElem (by rw [Array.size_modify]; exact hlt), Array.getElem_modify_self, hk]
  rfl
theorem XBox.other {W : World} {B : Nat} {x : ByteArray × Int} {v : Value} (h : XBox W B x v) {p : Addr} (hne : B ≠ p.block) (u : Value) : XBox (W.setCell p u) B x v := (Below.heap_setCell W p u B hne).trans h

/-- The boxes of a function that builds a term: of what came in, of the answer, of what is built. -/
structure Three (w : World) (x : ByteArray × Int) (a : Option Addr) (n c : Nat) (W : World) (v : Value) : Prop where
  low : Below w.heap.size w W
  t : TBox W w.heap.size x a n c
  r : W.heap[w.heap.size + 1]? = some (.cells #[.string ⟨#[]⟩, .int .i64 0, .slice none 0 0] 28 (0, 0))
  x : XBox W (w.heap.size + 1 + 1) x v
/-- What has been built of the list: these terms, in a row of the call's own, their own lists elsewhere. -/
structure Built (mk : Bool) (w : World) (W : World) (v : Value) (j : Nat) (ks : List Kv) : Prop where
  row : W.ownsRow (w.heap.size + 3) 28 3 v j (kvCells ks)
  own : ∀ k ∈ ks, OwnTm mk (fun q => w.heap.size + 3 ≤ q ∧ some q ≠ v.ownBlock) W k.x k.a k.c k.l

theorem Three.new (w : World) (x : ByteArray × Int) (a : Option Addr) (n c : Nat) : Three w x a n c (((w.alloc (.cells #[.string x.1, .int .i64 x.2, .slice a n c] 28)).alloc (.cells #[.string ⟨#[]⟩, .int .i64 0, .slice none 0 0] 28)).alloc (.cells #[.string x.1, .int .i64 x.2, .slice none 0 0] 28)) (.slice none 0 0) := by
  refine ⟨(((Below.refl _ w).alloc (Nat.le_refl _) _).alloc (by simp) _).alloc (by simp; omega) _, ?_, ?_, ?_⟩
  · exact ((TBox.new w x a n c).below ((Below.refl _ _).alloc (Nat.le_refl _) _)).below ((Below.refl _ _).alloc (Nat.le_refl _) _)
  · rw [Below.heap_alloc _ _ _ (by simp)]
    have := World.alloc_heap_new (w.alloc (.cells #[.string x.1, .int .i64 x.2, .slice a n c] 28)) (.cells #[.string ⟨#[]⟩, .int .i64 0, .slice none 0 0] 28)
    rwa [World.size_alloc] at this
  · have := World.alloc_heap_new ((w.alloc (.cells #[.string x.1, .int .i64 x.2, .slice a n c] 28)).alloc (.cells #[.string ⟨#[]⟩, .int .i64 0, .slice none 0 0] 28)) (.cells #[.string x.1, .int .i64 x.2, .slice none 0 0] 28)
    rw [World.size_alloc, World.size_alloc] at this
    exact this
/-- One term more: the callee has made it; it is appended; the list is stored. -/
theorem build_step {mk : Bool} {w wr w1 w3 : World} {x : ByteArray × Int} {a : Option Addr} {n c j g cap : Nat} {v : Value} {ks : List Kv} {kv : Kv} {o : Obj} (hT : Three w x a n c wr v) (hB : Built mk w wr v j ks) (hW : Below wr.heap.size wr w1)
    (hk : OwnTm mk (fun k => wr.heap.size ≤ k) w1 kv.x kv.a kv.c kv.l) (hg : (w1.alloc o).grownBy w3 v.ownBlock) (hat : v.ownBlock = some g ∨ g = w1.heap.size + 1)
    (ho : w3.ownsRow (w.heap.size + 3) 28 3 (.slice (some ⟨g, 0, none⟩) (j + 1) cap) (j + 1) (kvCells ks ++ kv.cells)) :
    Three w x a n c (w3.setCell ⟨w.heap.size + 1 + 1, 2, none⟩ (.slice (some ⟨g, 0, none⟩) (j + 1) cap)) (.slice (some ⟨g, 0, none⟩) (j + 1) cap) ∧
    Built mk w (w3.setCell ⟨w.heap.size + 1 + 1, 2, none⟩ (.slice (some ⟨g, 0, none⟩) (j + 1) cap)) (.slice (some ⟨g, 0, none⟩) (j + 1) cap) (j + 1) (ks ++ [kv]) := by
  have hxlt := hT.x.lt
  have hsz := hW.size
  have hWa : Below wr.heap.size wr (w1.alloc o) := hW.alloc hsz _
  have far : ∀ k, k < w.heap.size + 3 → k < wr.heap.size → w3.heap[k]? = wr.heap[k]? := fun k hk hlt => by
    rw [hg.block k (by rw [World.size_alloc]; omega) (fun e => by have := (owns_cells hB.row e.symm).1; omega)]
    exact hWa.block k hlt
  have hlow : Below w.heap.size w w3 := hT.low.trans ((hWa.mono (by have := hT.low.size; omega)).grown hg (by simp; omega) (fun k e => by have := (owns_cells hB.row e).1; omega))
  have hrow : (w3.setCell ⟨w.heap.size + 1 + 1, 2, none⟩ (.slice (some ⟨g, 0, none⟩) (j + 1) cap)).ownsRow (w.heap.size + 3) 28 3 (.slice (some ⟨g, 0, none⟩) (j + 1) cap) (j + 1) (kvCells ks ++ kv.cells) := owns_block ho (fun q hq => by
    have := (owns_cells ho hq).1
    exact Below.heap_setCell w3 _ _ q (by show q ≠ w.heap.size + 1 + 1; omega))
  refine ⟨⟨hlow.setCell (p := ⟨w.heap.size + 1 + 1, 2, none⟩) (by show w.heap.size ≤ w.heap.size + 1 + 1; omega) _, ?_, ?_, ?_⟩, ⟨by rw [kvCells_snoc]; exact hrow, ?_⟩⟩
  · exact ((Below.heap_setCell w3 _ _ _ (by show w.heap.size ≠ w.heap.size + 1 + 1; omega)).trans (far _ (by omega) (by omega))).trans hT.t
  · exact ((Below.heap_setCell w3 _ _ _ (by show w.heap.size + 1 ≠ w.heap.size + 1 + 1; omega)).trans (far _ (by omega) (by omega))).trans hT.r
  · exact XBox.set ((far _ (by omega) (by omega)).trans hT.x) _
  · intro k hkm
    have set : ∀ (q : Nat), (w.heap.size + 3 ≤ q ∧ some q ≠ some g) → q < w3.heap.size → (w3.setCell ⟨w.heap.size + 1 + 1, 2, none⟩ (.slice (some ⟨g, 0, none⟩) (j + 1) cap)).heap[q]? = w3.heap[q]? := fun q hq _ => Below.heap_setCell w3 _ _ q (by show q ≠ w.heap.size + 1 + 1; omega)
    have grow : ∀ (q : Nat), some q ≠ v.ownBlock → q < (w1.alloc o).heap.size → w3.heap[q]? = (w1.alloc o).heap[q]? := fun q hq hlt => hg.block q hlt hq
    rcases List.mem_append.1 hkm with hkm | hkm
    · have h1 := (hB.own k hkm).below hWa
      have h2 : OwnTm mk (fun q => (w.heap.size + 3 ≤ q ∧ some q ≠ some g) ∧ some q ≠ v.ownBlock) (w1.alloc o) k.x k.a k.c k.l := by
        have h0 : OwnTm mk (fun q => (w.heap.size + 3 ≤ q ∧ some q ≠ some g) ∧ some q ≠ v.ownBlock) wr k.x k.a k.c k.l := (hB.own k hkm).mono (fun q hq hp => ⟨⟨hp.1, by
          rcases hat with e | e
          · rw [← e]; exact hp.2
          · intro e'; cases e'; omega⟩, hp.2⟩)
        exact h0.below hWa
      exact ((h2.keep (fun q hq hlt => grow q hq.2 hlt)).mono (fun q _ hq => hq.1)).keep set
    · simp only [List.mem_singleton] at hkm
      subst hkm
      have h2 : OwnTm mk (fun q => (w.heap.size + 3 ≤ q ∧ some q ≠ some g) ∧ some q ≠ v.ownBlock) w1 k.x k.a k.c k.l := hk.mono (fun q hq hp => ⟨⟨by omega, by
        rcases hat with e | e
        · intro e'
          cases e'
          have := (owns_cells hB.row e).2
          obtain ⟨cur, hc⟩ := this
          have := (Array.getElem?_eq_some_iff.1 hc).1
          omega
        · intro e'; cases e'; omega⟩, fun e' => by
          obtain ⟨cur, hc⟩ := (owns_cells hB.row e'.symm).2
          have := (Array.getElem?_eq_some_iff.1 hc).1
          omega⟩)
      exact (((h2.below ((Below.refl _ _).alloc (Nat.le_refl _) o)).keep (fun q hq hlt => grow q hq.2 hlt)).mono (fun q _ hq => hq.1)).keep set

theorem owns_cap {w : World} {base e size g n cap : Nat} {xs : List Value} (h : w.ownsRow base e size (.slice (some ⟨g, 0, none⟩) n cap) n xs) : n ≤ cap ∧ cap ≤ maxLen := by
  rcases h.2 with ⟨hv, _⟩ | ⟨g', cap', cur', hv, _, _, hnc, hcm, _⟩
  · cases hv
  · cases hv; exact ⟨hnc, hcm⟩
theorem block_set {W : World} {B k : Nat} {cs : Array Value} {t : TypeId} {fr : Nat × Nat} (h : W.heap[B]? = some (Obj.cells cs t fr)) (u : Value) : (W.setCell ⟨B, k, none⟩ u).heap[B]? = some (Obj.cells (cs.setIfInBounds k u) t fr) := by
  obtain ⟨hlt, hk⟩ := Array.getElem?_eq_some_iff.1 h
  show (W.heap.modify B _)[B]? = _
  rw [Array.getElem?_eq_getElem (by rw [Array.size_modify]; exact hlt), Array.getElem_modify_self, hk]
  rfl
/-- A term stored over another. -/
theorem XBox.all {W : World} {B : Nat} {x y : ByteArray × Int} {v : Value} (h : XBox W B y v) (u : Value) : XBox (((W.setCell ⟨B, 0, none⟩ (.string x.1)).setCell ⟨B, 1, none⟩ (.int .i64 x.2)).setCell ⟨B, 2, none⟩ u) B x u := by
  have := block_set (k := 2) (block_set (k := 1) (block_set (k := 0) h (.string x.1)) (.int .i64 x.2)) u
  exact this
theorem Tryz.size28 : (Tryz.prog.info? 28).map (·.size) = some 3 := by kernel_rfl
/-- The three stores of the answer turn one block. -/
theorem sets_far {W : World} {B q : Nat} (h : q ≠ B) (a b c : Value) : (((W.setCell ⟨B, 0, none⟩ a).setCell ⟨B, 1, none⟩ b).setCell ⟨B, 2, none⟩ c).heap[q]? = W.heap[q]? :=
  ((Below.heap_setCell _ _ _ _ h).trans (Below.heap_setCell _ _ _ _ h)).trans (Below.heap_setCell _ _ _ _ h)
theorem sets_below {n0 : Nat} {w W : World} {B : Nat} (hb : Below n0 w W) (h : n0 ≤ B) (a b c : Value) : Below n0 w (((W.setCell ⟨B, 0, none⟩ a).setCell ⟨B, 1, none⟩ b).setCell ⟨B, 2, none⟩ c) :=
  ((hb.setCell (p := ⟨B, 0, none⟩) h _).setCell (p := ⟨B, 1, none⟩) h _).setCell (p := ⟨B, 2, none⟩) h _
def markK : Kv := ⟨(markB, 0), .nil, none, 0⟩
/-- The list with the mark behind it. -/
theorem lent_done {w wr wd w3 W : World} {x : ByteArray × Int} {l : Fo} {g cap : Nat} {v : Value} {ks : List Kv} (hs : Sizes x.1 (lenF l) cap) (hB : Built true w wr v (lenF l) ks) (hks : ks.map (fun k => (k.x, k.l)) = kidsL l)
    (hd : ∀ q, q < wr.heap.size → wd.heap[q]? = wr.heap[q]?) (hdz : wr.heap.size < wd.heap.size) (hg : wd.grownBy w3 v.ownBlock)
    (ho : w3.ownsRow (w.heap.size + 3) 28 3 (.slice (some ⟨g, 0, none⟩) (lenF l + 1) cap) (lenF l + 1) (kvCells ks ++ markK.cells)) (hW : ∀ q, w.heap.size + 3 ≤ q → W.heap[q]? = w3.heap[q]?) : OwnTm true (fun k => w.heap.size ≤ k) W x (some ⟨g, 0, none⟩) cap l := by
  have hlen : ks.length = lenF l := by have := congrArg List.length hks; rwa [List.length_map, kids_len] at this
  obtain ⟨hge, cur, hcur⟩ := owns_cells ho (g := g) rfl
  have hcap : lenF l + 1 ≤ cap := by
    rcases ho.2 with ⟨hv, _⟩ | ⟨g', cap', cur', hv, _, _, hnc, _⟩
    · cases hv
    · cases hv; exact hnc
  have hWg : W.heap[g]? = w3.heap[g]? := hW g hge
  have hat3 := owns_at ho
  have kids : OwnKids true (fun k => w.heap.size ≤ k) W l g 0 := by
    refine ownKids_of l ks 0 hks (fun j u hu => ?_) (fun k hk => ?_)
    · rw [show W.cell? ⟨g, 0 + j, none⟩ = w3.cell? ⟨g, 0 + j, none⟩ from World.cell?_of_block hWg]
      exact hat3 j u (by rw [List.getElem?_append_left (by
        rcases Nat.lt_or_ge j (kvCells ks).length with h' | h'
        · exact h'
        · rw [List.getElem?_eq_none h'] at hu; cases hu)]; exact hu)
    · have h1 := hB.own k hk
      refine (h1.keep (w' := W) (fun q hq hlt => ?_)).mono (fun q _ hq => by omega)
      rw [hW q hq.1, hg.block q (by omega) hq.2]
      exact hd q hlt
  refine ⟨hs, .inr ⟨g, cur, rfl, by omega, hWg.trans hcur, fun _ => ⟨hcap, ?_⟩, kids⟩⟩
  rw [show W.cell? ⟨g, lenF l * 3, none⟩ = w3.cell? ⟨g, lenF l * 3, none⟩ from World.cell?_of_block hWg]
  have := hat3 (lenF l * 3) (.string markB) (by rw [List.getElem?_append_right (by rw [kvCells_len]; omega), kvCells_len, hlen]; simp [Kv.cells, markK])
  rwa [Nat.zero_add] at this

end Go.Proofs.YtppgmepmegelbaaGreatDoor
