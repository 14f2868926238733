/- Two bags side by side; the memory of BagOrder. -/
import Derived.Test.YtlbmamkkbpjafabBMade
import Derived.Test.YtlbmamkkbpjafabBOrdP
import Derived.Test.YtlbmamkkbpjafabBParts
namespace Go.Proofs.Ytlbmamkkbpjafab
open Go.RowKit Go.Shelf

theorem parts_any (B : Nat) (w : World) : Calls Try.prog 9 #[.pointer (some ⟨B, 0, none⟩)] w fun e w' => e = .returned (.func (.func 19) #[] #[.pointer (some ⟨w.heap.size, 0, none⟩)]) ∧ w' = w.alloc (.cells #[.pointer (some ⟨B, 0, none⟩)] 23) := by
  go_enter Try.func9, Try.ntmps9
  go_wp2
  go_ret
  exact ⟨rfl, rfl⟩
theorem row_ty {W : World} {base n : Nat} {p : Option Addr} {m c g : Nat} {xs : List Value} (h : W.ownsRow base 32 3 (.slice p m c) n xs) (hg : p.map Addr.block = some g) : ∃ cur, W.heap[g]? = some (.cells cur 32 (0, 0)) := by
  rcases h.2 with ⟨h2, _⟩ | ⟨g', cap, cur, h2, _, h3, _⟩
  · rw [(Value.slice.inj h2).1] at hg
    cases hg
  · rw [(Value.slice.inj h2).1] at hg
    obtain rfl : g' = g := Option.some.inj hg
    exact ⟨cur, h3⟩
theorem box_row {W : World} {base B : Nat} {l : List It} {p : Option Addr} {c : Nat} (h : BagAt base B W l p c) {C : Nat} {v : Value} (hC : BagBox W C v) : p.map Addr.block ≠ some C := fun hg => by
  obtain ⟨cur, h1⟩ := row_ty h.2.1 hg
  have h2 : some (Obj.cells #[ordV, v] 42 (0, 0)) = some (Obj.cells cur 32 (0, 0)) := Eq.trans (Eq.symm hC) h1
  injection h2 with h2
  injection h2 with _ h2 _
  exact absurd h2 (by decide)
/-- A bag stays where another one is changed. -/
theorem bag_keep {base base' X Y : Nat} {l m : List It} {px py : Option Addr} {cx cy : Nat} {W W' : World} (hX : BagAt base X W l px cx) (hY : BagAt base' Y W m py cy) (hne : X ≠ Y) (hd : ∀ g, px.map Addr.block = some g → py.map Addr.block ≠ some g) (hf : Fr (fun q => q = X ∨ px.map Addr.block = some q) W W') : BagAt base' Y W' m py cy := by
  refine ⟨(hf.same Y hY.1.lt ?_).trans hY.1, owns_fr hY.2.1 hf ?_, hY.2.2⟩
  · rintro (h | h)
    · exact hne h.symm
    · exact box_row hX hY.1 h
  · intro g hg
    rw [own_eq] at hg
    rintro (rfl | h)
    · exact box_row hY hX.1 hg
    · exact hd g h hg
structure Tw (w : World) (X Y : Nat) (l m : List It) (px : Option Addr) (cx : Nat) (py : Option Addr) (cy : Nat) (W : World) : Prop where
  x : BagAt w.heap.size X W l px cx
  y : BagAt w.heap.size Y W m py cy
  ne : X ≠ Y
  d : ∀ g, px.map Addr.block = some g → py.map Addr.block ≠ some g
  hx : w.heap.size ≤ X
  hy : w.heap.size ≤ Y
  low : Below w.heap.size w W
theorem Tw.below {w : World} {X Y : Nat} {l m : List It} {px : Option Addr} {cx : Nat} {py : Option Addr} {cy : Nat} {W W' : World} (h : Tw w X Y l m px cx py cy W) (hb : Below W.heap.size W W') : Tw w X Y l m px cx py cy W' :=
  ⟨h.x.below hb, h.y.below hb, h.ne, h.d, h.hx, h.hy, h.low.trans (hb.mono h.low.size)⟩
theorem bag_low {X : Nat} {l : List It} {px : Option Addr} {cx : Nat} {w W W' : World} (hX : BagAt w.heap.size X W l px cx) (hx : w.heap.size ≤ X) (hl : Below w.heap.size w W) (hf : Fr (fun q => q = X ∨ px.map Addr.block = some q) W W') : Below w.heap.size w W' :=
  hl.trans (hf.below (fun k hk => by
    rcases hk with rfl | hk
    · exact hx
    · exact (hX.2.1.lt k (by rw [own_eq]; exact hk)).1) hl.size)
theorem Tw.addx {w : World} {X Y : Nat} {l m : List It} {px : Option Addr} {cx : Nat} {py : Option Addr} {cy : Nat} {W W' : World} (h : Tw w X Y l m px cx py cy W) {x : Th} {n : Int} {e : Ending} (ha : AddEnd w.heap.size X px x n l W e W') : ∃ p c, e = .returned (.bool (addP x n l).1) ∧ Tw w X Y (addP x n l).2 m p c py cy W' := by
  obtain ⟨p, c, he, hA, hF, hp⟩ := ha
  refine ⟨p, c, he, hA, bag_keep h.x h.y h.ne h.d hF, h.ne, fun g hg => ?_, h.hx, h.hy, bag_low h.x h.hx h.low hF⟩
  rcases hp g hg with h1 | h1
  · exact h.d g h1
  · intro h2
    have := (h.y.2.1.lt g (by rw [own_eq]; exact h2)).2
    omega
theorem Tw.turn {w : World} {X Y : Nat} {l m : List It} {px : Option Addr} {cx : Nat} {py : Option Addr} {cy : Nat} {W : World} (h : Tw w X Y l m px cx py cy W) : Tw w Y X m l py cy px cx W := ⟨h.y, h.x, h.ne.symm, fun g h1 h2 => h.d g h2 h1, h.hy, h.hx, h.low⟩
theorem ThsAt.take {w : World} {p : Option Addr} {n : Nat} {l : List Th} (h : ThsAt w p n l) (k : Nat) (hk : k ≤ n) : ThsAt w p k (l.take k) :=
  ⟨by rw [List.length_take, ← h.len]; omega, Nat.le_trans hk h.small, fun i hi => by
    have hi' : i < l.length := by rw [List.length_take] at hi; omega
    obtain ⟨b, o, h1, h2, h3⟩ := h.cells i hi'
    exact ⟨b, o, h1, by rw [List.getElem_take]; exact h2, by rw [List.getElem_take]; exact h3⟩⟩
/-- What the count of parts keeps: its box at z, the iterator's box, the deferred calls, the record. -/
structure OK (w : World) (z X Y : Nat) (L R : List It) (px : Option Addr) (cx : Nat) (py : Option Addr) (cy : Nat) (r : Loop) (k : Nat) (st : Option (List Int)) (W : World) : Prop where
  zn : W.heap[z]? = some (.cells #[.int .i64 k] 3 (0, 0))
  zb : W.heap[z + 1]? = some (.cells #[.pointer (some ⟨X, 0, none⟩)] 23 (0, 0))
  zd : W.heap[z + 2]? = some (.deferred (some []))
  zl : W.heap[z + 3]? = some (.loop r)
  tw : Tw w X Y L R px cx py cy W
  far : X < z ∧ Y < z ∧ (∀ g, px.map Addr.block = some g → g < z) ∧ (∀ g, py.map Addr.block = some g → g < z) ∧ w.heap.size ≤ z
  sz : z + 4 ≤ W.heap.size
  rk : match st with | some cs => Fits L cs ∧ rkN L cs = k | none => (k : Int) = prN L
theorem Tw.keep {w : World} {z X Y : Nat} {l m : List It} {px : Option Addr} {cx : Nat} {py : Option Addr} {cy : Nat} {W W' : World} (h : Tw w X Y l m px cx py cy W) (far : X < z ∧ Y < z ∧ (∀ g, px.map Addr.block = some g → g < z) ∧ (∀ g, py.map Addr.block = some g → g < z) ∧ w.heap.size ≤ z) (hs : ∀ b, b < z → W'.heap[b]? = W.heap[b]?) (hl : Below w.heap.size w W') : Tw w X Y l m px cx py cy W' := by
  obtain ⟨f1, f2, f3, f4, _⟩ := far
  refine ⟨⟨(hs _ f1).trans h.x.1, ?_, h.x.2.2⟩, ⟨(hs _ f2).trans h.y.1, ?_, h.y.2.2⟩, h.ne, h.d, h.hx, h.hy, hl⟩
  · exact ⟨h.x.2.1.1, h.x.2.1.2.imp id (fun ⟨g, cap, cur, h1, h2, h3, h4⟩ => ⟨g, cap, cur, h1, h2, (hs g (f3 g (by rw [(Value.slice.inj h1).1]; rfl))).trans h3, h4⟩)⟩
  · exact ⟨h.y.2.1.1, h.y.2.1.2.imp id (fun ⟨g, cap, cur, h1, h2, h3, h4⟩ => ⟨g, cap, cur, h1, h2, (hs g (f4 g (by rw [(Value.slice.inj h1).1]; rfl))).trans h3, h4⟩)⟩
theorem OK.fr {w : World} {z X Y : Nat} {L R : List It} {px : Option Addr} {cx : Nat} {py : Option Addr} {cy : Nat} {r : Loop} {k : Nat} {st : Option (List Int)} {W W' : World} {B1 : Nat} (h : OK w z X Y L R px cx py cy r k st W) (hf : Fr (fun b => z + 4 ≤ b ∧ b < B1) W W') : OK w z X Y L R px cx py cy r k st W' := by
  have hs : ∀ b, b < z + 4 → W'.heap[b]? = W.heap[b]? := fun b hb => hf.same b (Nat.lt_of_lt_of_le hb h.sz) (by omega)
  have hz := h.far.2.2.2.2
  exact ⟨(hs _ (by omega)).trans h.zn, (hs _ (by omega)).trans h.zb, (hs _ (by omega)).trans h.zd, (hs _ (by omega)).trans h.zl, h.tw.keep h.far (fun b hb => hs b (by omega)) (h.tw.low.trans (hf.below (fun b hb => by omega) h.tw.low.size)), h.far, Nat.le_trans h.sz hf.low.size, h.rk⟩
theorem ok_start {w W : World} {X Y : Nat} {L R : List It} {px : Option Addr} {cx : Nat} {py : Option Addr} {cy : Nat} (h : Tw w X Y L R px cx py cy W) (hp : ∀ y ∈ L, 1 ≤ y.2) (r : Loop) (A2 : World) (hA2 : A2 = (W.alloc (.cells #[.int .i64 0] 3)).alloc (.cells #[.pointer (some ⟨X, 0, none⟩)] 23)) :
    A2.heap.size = W.heap.size + 2 ∧ ((A2.alloc (.deferred (some []))).alloc (.loop r)).heap.size = W.heap.size + 4 ∧ OK w W.heap.size X Y L R px cx py cy r 0 (some (List.replicate L.length 0)) ((A2.alloc (.deferred (some []))).alloc (.loop r)) := by
  have q1 := alloc_below0 W (.cells #[.int .i64 0] 3)
  have m1 := World.alloc_heap_new W (.cells #[.int .i64 0] 3)
  obtain ⟨A1, e1⟩ : ∃ A, W.alloc (.cells #[.int .i64 0] 3) = A := ⟨_, rfl⟩
  have s1 : A1.heap.size = W.heap.size + 1 := by rw [← e1, World.size_alloc]
  rw [e1] at q1 m1 hA2
  have q2 := alloc_below0 A1 (.cells #[.pointer (some ⟨X, 0, none⟩)] 23)
  have m2 := World.alloc_heap_new A1 (.cells #[.pointer (some ⟨X, 0, none⟩)] 23)
  rw [← hA2] at q2 m2
  have s2 : A2.heap.size = W.heap.size + 2 := by rw [hA2, World.size_alloc, s1]
  have q3 := alloc_below0 A2 (.deferred (some []))
  have m3 := World.alloc_heap_new A2 (.deferred (some []))
  obtain ⟨A3, e3⟩ : ∃ A, A2.alloc (.deferred (some [])) = A := ⟨_, rfl⟩
  have s3 : A3.heap.size = W.heap.size + 3 := by rw [← e3, World.size_alloc, s2]
  rw [e3] at q3 m3 ⊢
  have q4 := alloc_below0 A3 (.loop r)
  have m4 := World.alloc_heap_new A3 (.loop r)
  obtain ⟨A4, e4⟩ : ∃ A, A3.alloc (.loop r) = A := ⟨_, rfl⟩
  have s4 : A4.heap.size = W.heap.size + 4 := by rw [← e4, World.size_alloc, s3]
  rw [e4] at q4 m4 ⊢
  rw [s1] at q2 m2
  rw [s2] at q3 m3
  rw [s3] at q4 m4
  have t3 := q3.trans (q4.mono (by omega))
  have t2 := q2.trans (t3.mono (by omega))
  have t1 := q1.trans (t2.mono (by omega))
  refine ⟨s2, s4, (t2.block _ (by omega)).trans m1, (t3.block _ (by omega)).trans m2, (q4.block _ (by omega)).trans m3, m4, h.below t1, ⟨h.x.1.lt, h.y.1.lt, fun g hg => (h.x.2.1.lt g (by rw [own_eq]; exact hg)).2, fun g hg => (h.y.2.1.lt g (by rw [own_eq]; exact hg)).2, h.low.size⟩, by omega, ⟨fits_zero hp, rk_zero _ _⟩⟩
/-- One part more. -/
theorem OK.step {w : World} {z X Y : Nat} {L R : List It} {px : Option Addr} {cx : Nat} {py : Option Addr} {cy : Nat} {r r' : Loop} {k : Nat} {cs : List Int} {W : World} (h : OK w z X Y L R px cx py cy r k (some cs) W) (hp : ∀ y ∈ L, 1 ≤ y.2) (W2 : World) (hW2 : W2 = (W.putObj (z + 3) (.loop r')).setCell ⟨z, 0, none⟩ (.int .i64 ((k : Int) + 1))) :
    W2.heap[z + 3]? = some (.loop r') ∧ (∀ b, z + 4 ≤ b → (W2.putObj (z + 3) (.loop r)).heap[b]? = W.heap[b]?) ∧ OK w z X Y L R px cx py cy r (k + 1) (riseO L cs) (W2.putObj (z + 3) (.loop r)) := by
  have hlt := (Array.getElem?_eq_some_iff.1 h.zl).1
  have hz := h.far.2.2.2.2
  have hs : ∀ b, b ≠ z → b ≠ z + 3 → W2.heap[b]? = W.heap[b]? := fun b h1 h2 => by rw [hW2]; exact (set_far h1 _).trans (World.putObj_heap_other (by omega))
  have h3 : W2.heap[z + 3]? = some (.loop r') := by rw [hW2]; exact (set_far (by omega) _).trans (World.putObj_heap_same hlt)
  have h0 : W2.heap[z]? = some (.cells #[.int .i64 ((k : Int) + 1)] 3 (0, 0)) := by rw [hW2]; exact set1 ((World.putObj_heap_other (by omega)).trans h.zn)
  have hl3 := (Array.getElem?_eq_some_iff.1 h3).1
  have hlow : Below w.heap.size w W2 := by
    have l1 : Below w.heap.size w (W.putObj (z + 3) (.loop r')) := h.tw.low.trans ((fr_one (z + 3) (.loop r')).below (fun b e => by omega) h.tw.low.size)
    rw [hW2]
    exact l1.setCell (p := ⟨z, 0, none⟩) hz _
  have hs4 : W2.heap.size = W.heap.size := by
    have e1 : (W.putObj (z + 3) (.loop r')).heap.size = W.heap.size := by simp [World.putObj]
    rw [hW2, ← e1]
    simp [World.setCell]
  have hs5 : (W2.putObj (z + 3) (.loop r)).heap.size = W2.heap.size := by simp [World.putObj]
  have ho : ∀ b, b ≠ z + 3 → (W2.putObj (z + 3) (.loop r)).heap[b]? = W2.heap[b]? := fun b hb => World.putObj_heap_other hb
  have hsz := h.sz
  refine ⟨h3, fun b hb => (ho b (by omega)).trans (hs b (by omega) (by omega)), (ho _ (by omega)).trans h0, (ho _ (by omega)).trans ((hs _ (by omega) (by omega)).trans h.zb), (ho _ (by omega)).trans ((hs _ (by omega) (by omega)).trans h.zd), World.putObj_heap_same hl3, h.tw.keep h.far (fun b hb => (ho b (by omega)).trans (hs b (by omega) (by omega))) (hlow.trans ((fr_one (z + 3) (.loop r)).below (fun b e => by omega) hlow.size)), h.far, by omega, ?_⟩
  obtain ⟨hf, hr⟩ : Fits L cs ∧ rkN L cs = k := h.rk
  obtain ⟨i1, i2⟩ := rk_rise L cs hf
  unfold riseO
  by_cases ht : (riseP L cs).2 = true
  · rw [if_pos ht]
    exact ⟨fits_rise hp hf _ (Nat.le_refl _), by rw [i1 ht, hr]; rfl⟩
  · rw [if_neg ht]
    show ((k + 1 : Nat) : Int) = prN L
    rw [← i2 (by simpa using ht), hr]
    rfl
end Go.Proofs.Ytlbmamkkbpjafab
