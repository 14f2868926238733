/- Terms in memory that a call has made itself: every list from the head of a block of its own, with a mark behind it or none. -/
import Derived.Test.YtppgmepmegelbaaGreatDoorTBase
namespace Go.Proofs.YtppgmepmegelbaaGreatDoor
open Go.RowKit Go.Deep

def markB : ByteArray := ⟨#[77, 97, 114, 107]⟩
/-- The list of these terms, its blocks among those that P lets in. -/
def OwnKids (mk : Bool) (P : Nat → Prop) (w : World) : Fo → Nat → Nat → Prop
  | .nil, _, _ => True
  | .node _ _ x l r, b, o => (∃ a c, w.cell? ⟨b, o, none⟩ = some (.string x.1) ∧ w.cell? ⟨b, o + 1, none⟩ = some (.int .i64 x.2) ∧ w.cell? ⟨b, o + 2, none⟩ = some (.slice a (lenF l) c) ∧ Sizes x.1 (lenF l) c ∧
      ((l = .nil ∧ mk = false) ∨ ∃ g cur, a = some ⟨g, 0, none⟩ ∧ P g ∧ w.heap[g]? = some (Obj.cells cur 28 (0, 0)) ∧ (mk = true → lenF l + 1 ≤ c ∧ w.cell? ⟨g, lenF l * 3, none⟩ = some (.string markB)) ∧ OwnKids mk P w l g 0)) ∧ OwnKids mk P w r b (o + 3)
/-- The same of one term's arguments. -/
structure OwnTm (mk : Bool) (P : Nat → Prop) (w : World) (x : ByteArray × Int) (a : Option Addr) (c : Nat) (l : Fo) : Prop where
  sizes : Sizes x.1 (lenF l) c
  list : (l = .nil ∧ mk = false) ∨ ∃ g cur, a = some ⟨g, 0, none⟩ ∧ P g ∧ w.heap[g]? = some (Obj.cells cur 28 (0, 0)) ∧ (mk = true → lenF l + 1 ≤ c ∧ w.cell? ⟨g, lenF l * 3, none⟩ = some (.string markB)) ∧ OwnKids mk P w l g 0

theorem OwnKids.kids {mk : Bool} {P : Nat → Prop} {w : World} : ∀ {F : Fo} {b o : Nat}, OwnKids mk P w F b o → KidsAt w F b o
  | .nil, _, _, _ => trivial
  | .node _ _ _ l r, b, o, ⟨⟨a, c, h0, h1, h2, hs, hl⟩, hr⟩ => ⟨⟨a, c, h0, h1, h2, hs, by
      rcases hl with ⟨h, _⟩ | ⟨g, cur, ha, _, _, _, hk⟩
      · exact .inl h
      · exact .inr ⟨g, 0, ha, OwnKids.kids hk⟩⟩, OwnKids.kids hr⟩
theorem OwnTm.tm {mk : Bool} {P : Nat → Prop} {w : World} {x : ByteArray × Int} {a : Option Addr} {c : Nat} {l : Fo} (h : OwnTm mk P w x a c l) : TmAt w x a c l :=
  ⟨h.sizes, by
    rcases h.list with ⟨h, _⟩ | ⟨g, cur, ha, _, _, _, hk⟩
    · exact .inl h
    · exact .inr ⟨g, 0, ha, hk.kids⟩⟩
theorem OwnKids.mono {mk : Bool} {P P' : Nat → Prop} {w : World} (hp : ∀ k, k < w.heap.size → P k → P' k) : ∀ {F : Fo} {b o : Nat}, OwnKids mk P w F b o → OwnKids mk P' w F b o
  | .nil, _, _, _ => trivial
  | .node _ _ _ l r, b, o, ⟨⟨a, c, h0, h1, h2, hs, hl⟩, hr⟩ => ⟨⟨a, c, h0, h1, h2, hs, by
      rcases hl with h | ⟨g, cur, ha, hg, hc, hm, hk⟩
      · exact .inl h
      · exact .inr ⟨g, cur, ha, hp g (Array.getElem?_eq_some_iff.1 hc).1 hg, hc, hm, OwnKids.mono hp hk⟩⟩, OwnKids.mono hp hr⟩
theorem OwnTm.mono {mk : Bool} {P P' : Nat → Prop} {w : World} {x : ByteArray × Int} {a : Option Addr} {c : Nat} {l : Fo} (hp : ∀ k, k < w.heap.size → P k → P' k) (h : OwnTm mk P w x a c l) : OwnTm mk P' w x a c l :=
  ⟨h.sizes, by
    rcases h.list with h | ⟨g, cur, ha, hg, hc, hm, hk⟩
    · exact .inl h
    · exact .inr ⟨g, cur, ha, hp g (Array.getElem?_eq_some_iff.1 hc).1 hg, hc, hm, hk.mono hp⟩⟩
theorem OwnKids.keep {mk : Bool} {P : Nat → Prop} {w w' : World} (hp : ∀ k, P k → k < w.heap.size → w'.heap[k]? = w.heap[k]?) : ∀ {F : Fo} {b o : Nat}, w'.heap[b]? = w.heap[b]? → OwnKids mk P w F b o → OwnKids mk P w' F b o
  | .nil, _, _, _, _ => trivial
  | .node _ _ _ l r, b, o, hb, ⟨⟨a, c, h0, h1, h2, hs, hl⟩, hr⟩ => ⟨⟨a, c, (World.cell?_of_block hb).trans h0, (World.cell?_of_block hb).trans h1, (World.cell?_of_block hb).trans h2, hs, by
      rcases hl with h | ⟨g, cur, ha, hg, hc, hm, hk⟩
      · exact .inl h
      · have hgg := hp g hg (Array.getElem?_eq_some_iff.1 hc).1
        exact .inr ⟨g, cur, ha, hg, hgg.trans hc, fun e => ⟨(hm e).1, (World.cell?_of_block hgg).trans (hm e).2⟩, OwnKids.keep hp hgg hk⟩⟩, OwnKids.keep hp hb hr⟩
theorem OwnTm.keep {mk : Bool} {P : Nat → Prop} {w w' : World} {x : ByteArray × Int} {a : Option Addr} {c : Nat} {l : Fo} (hp : ∀ k, P k → k < w.heap.size → w'.heap[k]? = w.heap[k]?) (h : OwnTm mk P w x a c l) : OwnTm mk P w' x a c l :=
  ⟨h.sizes, by
    rcases h.list with h | ⟨g, cur, ha, hg, hc, hm, hk⟩
    · exact .inl h
    · have hgg := hp g hg (Array.getElem?_eq_some_iff.1 hc).1
      exact .inr ⟨g, cur, ha, hg, hgg.trans hc, fun e => ⟨(hm e).1, (World.cell?_of_block hgg).trans (hm e).2⟩, hk.keep hp hgg⟩⟩
theorem OwnTm.below {mk : Bool} {P : Nat → Prop} {w w' : World} {x : ByteArray × Int} {a : Option Addr} {c : Nat} {l : Fo} (h : OwnTm mk P w x a c l) (hb : Below w.heap.size w w') : OwnTm mk P w' x a c l := h.keep fun k _ hk => hb.block k hk

/-! ### lists of terms -/
/-- One term of a list, as its three cells say it. -/
structure Kv where
  x : ByteArray × Int
  l : Fo
  a : Option Addr
  c : Nat
def Kv.cells (k : Kv) : List Value := [.string k.x.1, .int .i64 k.x.2, .slice k.a (lenF k.l) k.c]
def kvCells (ks : List Kv) : List Value := ks.flatMap Kv.cells
def kidsL : Fo → List ((ByteArray × Int) × Fo)
  | .nil => []
  | .node _ _ x l r => (x, l) :: kidsL r
theorem kids_len : ∀ F : Fo, (kidsL F).length = lenF F
  | .nil => rfl
  | .node _ _ _ _ r => by simp [kidsL, lenF, kids_len r]
theorem kids_drop : ∀ (i : Nat) (F : Fo), kidsL (dropF i F) = (kidsL F).drop i
  | 0, F => by rw [drop_zero]; rfl
  | i + 1, .nil => by simp [dropF, kidsL]
  | i + 1, .node _ _ _ _ r => by simp only [dropF, kidsL, List.drop_succ_cons]; exact kids_drop i r
theorem kids_take {F : Fo} {k : Nat} {x : ByteArray × Int} {l : Fo} {B O : Nat} {r : Fo} (h : dropF k F = .node B O x l r) : (kidsL F).take (k + 1) = (kidsL F).take k ++ [(x, l)] := by
  have h1 := kids_drop k F
  rw [h, kidsL] at h1
  have h2 : (kidsL F)[k]? = some (x, l) := by
    have := congrArg (·[0]?) h1
    simpa using this.symm
  rw [List.take_add_one, h2]; rfl
theorem kvCells_len (ks : List Kv) : (kvCells ks).length = ks.length * 3 := by
  induction ks with
  | nil => rfl
  | cons k r ih => simp only [kvCells, List.flatMap_cons, List.length_append, List.length_cons] at ih ⊢; rw [ih]; simp [Kv.cells]; omega
theorem kvCells_snoc (ks : List Kv) (k : Kv) : kvCells (ks ++ [k]) = kvCells ks ++ k.cells := by simp [kvCells]
theorem kv_one (k : Kv) : ∀ u ∈ k.cells, u.oneCell' = true := by
  intro u hu
  simp [Kv.cells] at hu
  rcases hu with rfl | rfl | rfl <;> rfl

/-- A row of cells, and each term's own arguments: the list. -/
theorem ownKids_of {mk : Bool} {P : Nat → Prop} {w : World} {b : Nat} : ∀ (F : Fo) (ks : List Kv) (o : Nat), ks.map (fun k => (k.x, k.l)) = kidsL F → (∀ j u, (kvCells ks)[j]? = some u → w.cell? ⟨b, o + j, none⟩ = some u) → (∀ k ∈ ks, OwnTm mk P w k.x k.a k.c k.l) → OwnKids mk P w F b o
  | .nil, _, _, _, _, _ => trivial
  | .node _ _ x l r, [], o, h, _, _ => by simp [kidsL] at h
  | .node _ _ x l r, k :: ks, o, h, hc, ho => by
    simp only [List.map_cons, kidsL, List.cons.injEq, Prod.mk.injEq] at h
    obtain ⟨⟨rfl, rfl⟩, h⟩ := h
    have e : kvCells (k :: ks) = .string k.x.1 :: .int .i64 k.x.2 :: .slice k.a (lenF k.l) k.c :: kvCells ks := rfl
    rw [e] at hc
    have hk := ho k (by simp)
    refine ⟨⟨k.a, k.c, hc 0 _ rfl, hc 1 _ rfl, hc 2 _ rfl, hk.sizes, hk.list⟩, ownKids_of r ks (o + 3) h (fun j u hu => ?_) (fun k' hk' => ho k' (by simp [hk']))⟩
    have := hc (j + 3) u (by simpa using hu)
    rw [show o + 3 + j = o + (j + 3) by omega]
    exact this
theorem Tryz.info28 : (Tryz.prog.info? 28).map (fun i => (i.zero, i.size, i.bytes)) = some (some (.agg #[.string ⟨#[]⟩, .int .i64 0, .slice none 0 0]), 3, 48) := by kernel_rfl
/-- What a row that is owned holds, cell by cell. -/
theorem owns_at {w : World} {base e size g n cap : Nat} {xs : List Value} (h : w.ownsRow base e size (.slice (some ⟨g, 0, none⟩) n cap) n xs) : ∀ j u, xs[j]? = some u → w.cell? ⟨g, 0 + j, none⟩ = some u := by
  intro j u hu
  rcases h.2 with ⟨hv, _⟩ | ⟨g', cap', cur, hv, _, hh, _, _, _, hcur⟩
  · cases hv
  · cases hv
    have hj : j < xs.length := by
      rcases Nat.lt_or_ge j xs.length with h' | h'
      · exact h'
      · rw [List.getElem?_eq_none h'] at hu; cases hu
    rw [Nat.zero_add, cell_of_row w g j cur e (0, 0) hh, ← hu, ← hcur, List.getElem?_take_of_lt (by have := h.1; omega)]
    simp
end Go.Proofs.YtppgmepmegelbaaGreatDoor
