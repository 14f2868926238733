/- Deals and stacks of them in memory. -/
import Derived.Test.YtdpdpjfnanjmgaaDoorSpO
import Derived.Test.YtdpdpjfnanjmgaaDoorSpJ
import Derived.Test.YtdpdpjfnanjmgaaDoorSpK
namespace Go.Proofs.YtdpdpjfnanjmgaaDoor
open Go.RowKit Go.Shelf

/-- A deal: its numbers so far, what is left, who has something. -/
structure Dl where
  v : List Nat
  left : List Nat
  has : Nat
abbrev iV (n : Nat) : Value := .int .i64 (n : Int)
def padV (n : Nat) (l : List Nat) : List Value := (List.range n).map fun i => iV (l.getD i 0)
theorem padV_len (n : Nat) (l : List Nat) : (padV n l).length = n := by simp [padV]
theorem padV_at {n i : Nat} (l : List Nat) (h : i < n) : (padV n l)[i]? = some (iV (l.getD i 0)) := by
  unfold padV; rw [List.getElem?_map, List.getElem?_range h]; rfl
/-- A deal's cells. -/
def dC (d : Dl) : List Value := padV 25 d.v ++ (iV d.v.length :: (padV 5 d.left ++ [iV d.has]))
theorem dC_len (d : Dl) : (dC d).length = 32 := by simp [dC, padV_len]
theorem dC_part (d : Dl) {i : Nat} (h : i < 25) : (dC d)[i]? = some (iV (d.v.getD i 0)) := by
  unfold dC; rw [List.getElem?_append_left (by rw [padV_len]; exact h)]; exact padV_at _ h
theorem dC_made (d : Dl) : (dC d)[25]? = some (iV d.v.length) := by
  unfold dC; rw [List.getElem?_append_right (by rw [padV_len]; omega), padV_len]; rfl
theorem dC_left (d : Dl) {j : Nat} (h : j < 5) : (dC d)[26 + j]? = some (iV (d.left.getD j 0)) := by
  unfold dC
  rw [List.getElem?_append_right (by rw [padV_len]; omega), padV_len, show 26 + j - 25 = j + 1 by omega, List.getElem?_cons_succ, List.getElem?_append_left (by rw [padV_len]; exact h)]
  exact padV_at _ h
theorem dC_has (d : Dl) : (dC d)[31]? = some (iV d.has) := by
  unfold dC
  rw [List.getElem?_append_right (by rw [padV_len]; omega), padV_len, show 31 - 25 = 5 + 1 by omega, List.getElem?_cons_succ, List.getElem?_append_right (by rw [padV_len]; omega), padV_len]; rfl
theorem dC_one (d : Dl) : ∀ u ∈ dC d, u.oneCell' = true := fun u hu => by
  unfold dC padV at hu
  simp only [List.mem_append, List.mem_cons, List.mem_map, List.not_mem_nil, or_false] at hu
  rcases hu with ⟨_, _, rfl⟩ | rfl | ⟨_, _, rfl⟩ | rfl <;> rfl
abbrev dV (d : Dl) : Value := .agg (dC d).toArray
/-- The cells of a stack of deals. -/
def stC (st : List Dl) : List Value := st.flatMap dC
theorem stC_len : ∀ st : List Dl, (stC st).length = st.length * 32
  | [] => rfl
  | d :: st => by
    have h1 : (stC (d :: st)).length = (dC d).length + (stC st).length := by unfold stC; rw [List.flatMap_cons, List.length_append]
    rw [h1, stC_len st, dC_len, List.length_cons]; omega
theorem stC_app (st : List Dl) (d : Dl) : stC (st ++ [d]) = stC st ++ dC d := by unfold stC; simp
def Stk (base : Nat) (w : World) (v : Value) (st : List Dl) : Prop := w.ownsRow base 62 32 v st.length (stC st)
theorem info62 : (Tryd.prog.info? 62).map (fun i => (i.zero, i.size, i.bytes)) = some (some (.agg (List.replicate 32 (iV 0)).toArray), 32, 256) := by kernel_rfl
/-- A deal more. -/
theorem run_appD (ty base : Nat) (v : Value) (st : List Dl) (d : Dl) (w : World) (hown : Stk base w v st) (b : Nat) (hb : w.heap[b]? = some (.cells (dC d).toArray 62 (0, 0))) (hn : st.length + 1 ≤ 1000000) (hbase : base ≤ w.heap.size) :
    ∃ v' w', (Builtin.append_ #[63, 63] ty #[v, .slice (some ⟨b, 0, none⟩) 1 1]).run Tryd.prog w = .ok v' w' ∧ Stk base w' v' (st ++ [d]) ∧ Fr (fun q => v.ownBlock = some q) w w' ∧ (v'.ownBlock = v.ownBlock ∨ v'.ownBlock = some w.heap.size) := by
  obtain ⟨i0, hi0, hz0, hz1, hz2⟩ := info_parts info62
  obtain ⟨v', w', hr, h2, h3, _, h5⟩ := run_append_own_at (P := Tryd.prog) w base 63 ty 62 i0 _ 32 256 Tryd.underlying63 hi0 hz0 hz1 hz2 rfl (by decide) v st.length (stC st) hown ⟨b, 0, none⟩ 1 1 (dC d) (dC_len d) (fun j x hj => by
    rw [Addr.add_lit, Nat.zero_add]
    exact cell_box hb (by rw [List.getElem?_toArray]; exact hj)) (dC_one d) (by unfold maxLen; omega) (by omega) hbase
  refine ⟨v', w', hr, ?_, fr_grown h3, h5⟩
  unfold Stk
  rw [stC_app, List.length_append]
  exact h2
theorem cells_box32 {W : World} {b : Nat} {d : Dl} (h : W.heap[b]? = some (.cells (dC d).toArray 62 (0, 0))) {i : Nat} {v : Value} (hv : (dC d)[i]? = some v) : W.cell? ⟨b, i, none⟩ = some v := cell_box h (by rw [List.getElem?_toArray]; exact hv)
theorem Stk.keep {base : Nat} {w w' : World} {v : Value} {st : List Dl} (h : Stk base w v st) (hb : ∀ q, v.ownBlock = some q → w'.heap[q]? = w.heap[q]?) : Stk base w' v st :=
  ⟨h.1, by
    rcases h.2 with h0 | ⟨g, cap, cur, h1, h2, h3, h4⟩
    · exact .inl h0
    · exact .inr ⟨g, cap, cur, h1, h2, (hb g (by rw [h1]; rfl)).trans h3, h4⟩⟩
theorem Stk.lt {base : Nat} {w : World} {v : Value} {st : List Dl} (h : Stk base w v st) {q : Nat} (hq : v.ownBlock = some q) : q < w.heap.size ∧ base ≤ q := by
  rcases h.2 with ⟨h0, _⟩ | ⟨g, cap, cur, h1, h2, h3, h4⟩
  · rw [h0] at hq; cases hq
  · rw [h1] at hq
    have : g = q := Option.some.inj hq
    subst this
    exact ⟨(Array.getElem?_eq_some_iff.1 h3).1, h2⟩
theorem Stk.below {base : Nat} {w w' : World} {v : Value} {st : List Dl} (h : Stk base w v st) (hb : Below w.heap.size w w') : Stk base w' v st := h.keep fun q hq => hb.block q (h.lt hq).1
/-- A dealer's cells. -/
def dlC (K : Nat) (pk : Option Addr) (T ck : Nat) (f : Nat → Nat → Nat) : List Value := .int .i64 (K : Int) :: .slice pk T ck :: (List.range 42).map fun i => .int .u32 (f (i / 7) (i % 7) : Nat)
def DlAt (W : World) (X K : Nat) (pk : Option Addr) (T ck : Nat) (f : Nat → Nat → Nat) : Prop := W.heap[X]? = some (.cells (dlC K pk T ck f).toArray 58 (0, 0))
theorem DlAt.kinds {W : World} {X K : Nat} {pk : Option Addr} {T ck : Nat} {f : Nat → Nat → Nat} (h : DlAt W X K pk T ck f) : W.cell? ⟨X, 0, none⟩ = some (.int .i64 (K : Int)) := cell_box h rfl
theorem DlAt.often {W : World} {X K : Nat} {pk : Option Addr} {T ck : Nat} {f : Nat → Nat → Nat} (h : DlAt W X K pk T ck f) : W.cell? ⟨X, 1, none⟩ = some (.slice pk T ck) := cell_box h rfl
theorem DlAt.served {W : World} {X K : Nat} {pk : Option Addr} {T ck : Nat} {f : Nat → Nat → Nat} (h : DlAt W X K pk T ck f) {t n : Nat} (ht : t < 6) (hn : n < 7) : W.cell? ⟨X, 2 + t * 7 + n, none⟩ = some (.int .u32 (f t n : Nat)) := cell_box h (by
  rw [List.getElem?_toArray]
  unfold dlC
  rw [show 2 + t * 7 + n = (t * 7 + n) + 1 + 1 by omega, List.getElem?_cons_succ, List.getElem?_cons_succ, List.getElem?_map, List.getElem?_range (by omega), Option.map_some, show (t * 7 + n) / 7 = t by omega, show (t * 7 + n) % 7 = n by omega])
theorem DlAt.same {W W' : World} {X K : Nat} {pk : Option Addr} {T ck : Nat} {f : Nat → Nat → Nat} (h : DlAt W X K pk T ck f) (hs : W'.heap[X]? = W.heap[X]?) : DlAt W' X K pk T ck f := Eq.trans hs h
theorem DlAt.lt {W : World} {X K : Nat} {pk : Option Addr} {T ck : Nat} {f : Nat → Nat → Nat} (h : DlAt W X K pk T ck f) : X < W.heap.size := (Array.getElem?_eq_some_iff.1 h).1
theorem DlAt.below {W W' : World} {X K : Nat} {pk : Option Addr} {T ck : Nat} {f : Nat → Nat → Nat} (h : DlAt W X K pk T ck f) (hb : Below W.heap.size W W') : DlAt W' X K pk T ck f := h.same (hb.block X h.lt)
theorem fold_zip : ∀ (l : List Value) (k : Nat) (zs : Array Value), k + l.length = zs.size → (List.foldl (fun (cs : Array Value) (x : Value × Nat) => cs.setIfInBounds x.snd x.fst) zs (l.zipIdx k)).toList = zs.toList.take k ++ l
  | [], k, zs, h => by
    rw [List.zipIdx_nil, List.foldl_nil, List.append_nil, List.take_of_length_le]
    rw [Array.length_toList]; simp at h; omega
  | x :: l, k, zs, h => by
    rw [List.length_cons] at h
    rw [List.zipIdx_cons, List.foldl_cons, fold_zip l (k + 1) _ (by rw [Array.size_setIfInBounds]; omega), Array.toList_setIfInBounds]
    show (zs.toList.set k x).take (k + 1) ++ l = zs.toList.take k ++ x :: l
    have hk : k < zs.toList.length := by rw [Array.length_toList]; omega
    rw [List.take_succ_eq_append_getElem (by rw [List.length_set]; exact hk), List.take_set_of_le (Nat.le_refl _), List.getElem_set_self, List.append_assoc]
    rfl
set_option maxRecDepth 100000 in
theorem fold32 (d : Dl) : List.foldl (fun (cs : Array Value) (x : Value × Nat) => cs.setIfInBounds x.snd x.fst) #[Value.int IntKind.i64 0, Value.int IntKind.i64 0, Value.int IntKind.i64 0, Value.int IntKind.i64 0, Value.int IntKind.i64 0, Value.int IntKind.i64 0, Value.int IntKind.i64 0, Value.int IntKind.i64 0, Value.int IntKind.i64 0, Value.int IntKind.i64 0, Value.int IntKind.i64 0, Value.int IntKind.i64 0, Value.int IntKind.i64 0, Value.int IntKind.i64 0, Value.int IntKind.i64 0, Value.int IntKind.i64 0, Value.int IntKind.i64 0, Value.int IntKind.i64 0, Value.int IntKind.i64 0, Value.int IntKind.i64 0, Value.int IntKind.i64 0, Value.int IntKind.i64 0, Value.int IntKind.i64 0, Value.int IntKind.i64 0, Value.int IntKind.i64 0, Value.int IntKind.i64 0, Value.int IntKind.i64 0, Value.int IntKind.i64 0, Value.int IntKind.i64 0, Value.int IntKind.i64 0, Value.int IntKind.i64 0, Value.int IntKind.i64 0] (dC d).zipIdx = (dC d).toArray := by
  refine Array.toList_inj.1 ?_
  have := fold_zip (dC d) 0 #[Value.int IntKind.i64 0, Value.int IntKind.i64 0, Value.int IntKind.i64 0, Value.int IntKind.i64 0, Value.int IntKind.i64 0, Value.int IntKind.i64 0, Value.int IntKind.i64 0, Value.int IntKind.i64 0, Value.int IntKind.i64 0, Value.int IntKind.i64 0, Value.int IntKind.i64 0, Value.int IntKind.i64 0, Value.int IntKind.i64 0, Value.int IntKind.i64 0, Value.int IntKind.i64 0, Value.int IntKind.i64 0, Value.int IntKind.i64 0, Value.int IntKind.i64 0, Value.int IntKind.i64 0, Value.int IntKind.i64 0, Value.int IntKind.i64 0, Value.int IntKind.i64 0, Value.int IntKind.i64 0, Value.int IntKind.i64 0, Value.int IntKind.i64 0, Value.int IntKind.i64 0, Value.int IntKind.i64 0, Value.int IntKind.i64 0, Value.int IntKind.i64 0, Value.int IntKind.i64 0, Value.int IntKind.i64 0, Value.int IntKind.i64 0] (by rw [dC_len]; rfl)
  rw [List.take_zero, List.nil_append] at this
  exact this
theorem size62 {d : Dl} : (Tryd.prog.info? 62).map (·.size) = some (dC d).length := by
  rw [dC_len]; kernel_rfl
end Go.Proofs.YtdpdpjfnanjmgaaDoor
