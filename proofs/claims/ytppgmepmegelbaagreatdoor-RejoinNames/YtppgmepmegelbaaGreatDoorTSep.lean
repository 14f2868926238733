/- Terms in memory no two of whose lists share a block. -/
import Derived.Test.YtppgmepmegelbaaGreatDoorTKept
namespace Go.Proofs.YtppgmepmegelbaaGreatDoor
open Go.RowKit Go.Deep

/-- From this cell on these terms lie; their own lists have blocks of A, each another. -/
def SepKids (w : World) : Fo → (Nat → Prop) → Nat → Nat → Prop
  | .nil, _, _, _ => True
  | .node _ _ x l r, A, b, o => ∃ A1 A2 : Nat → Prop, (∀ k, A1 k → A k) ∧ (∀ k, A2 k → A k ∧ ¬ A1 k) ∧
      (∃ a c, w.cell? ⟨b, o, none⟩ = some (.string x.1) ∧ w.cell? ⟨b, o + 1, none⟩ = some (.int .i64 x.2) ∧ w.cell? ⟨b, o + 2, none⟩ = some (.slice a (lenF l) c) ∧ Sizes x.1 (lenF l) c ∧
        (l = .nil ∨ ∃ g cur, a = some ⟨g, 0, none⟩ ∧ A1 g ∧ w.heap[g]? = some (Obj.cells cur 28 (0, 0)) ∧ SepKids w l (fun k => A1 k ∧ k ≠ g) g 0)) ∧ SepKids w r A2 b (o + 3)
structure SepTm (w : World) (A : Nat → Prop) (x : ByteArray × Int) (a : Option Addr) (c : Nat) (l : Fo) : Prop where
  sizes : Sizes x.1 (lenF l) c
  list : l = .nil ∨ ∃ g cur, a = some ⟨g, 0, none⟩ ∧ A g ∧ w.heap[g]? = some (Obj.cells cur 28 (0, 0)) ∧ SepKids w l (fun k => A k ∧ k ≠ g) g 0

theorem SepKids.kids {w : World} : ∀ {F : Fo} {A : Nat → Prop} {b o : Nat}, SepKids w F A b o → KidsAt w F b o
  | .nil, _, _, _, _ => trivial
  | .node _ _ _ l r, A, b, o, ⟨A1, A2, _, _, ⟨a, c, h0, h1, h2, hs, hl⟩, hr⟩ => ⟨⟨a, c, h0, h1, h2, hs, by
      rcases hl with h | ⟨g, cur, ha, _, _, hk⟩
      · exact .inl h
      · exact .inr ⟨g, 0, ha, SepKids.kids hk⟩⟩, SepKids.kids hr⟩
theorem SepTm.tm {w : World} {A : Nat → Prop} {x : ByteArray × Int} {a : Option Addr} {c : Nat} {l : Fo} (h : SepTm w A x a c l) : TmAt w x a c l :=
  ⟨h.sizes, by
    rcases h.list with h | ⟨g, cur, ha, _, _, hk⟩
    · exact .inl h
    · exact .inr ⟨g, 0, ha, hk.kids⟩⟩
theorem SepKids.mono {w : World} : ∀ {F : Fo} {A A' : Nat → Prop} {b o : Nat}, (∀ k, A k → A' k) → SepKids w F A b o → SepKids w F A' b o
  | .nil, _, _, _, _, _, _ => trivial
  | .node _ _ _ _ _, _, _, _, _, hA, ⟨A1, A2, h1, h2, h3, h4⟩ => ⟨A1, A2, fun k hk => hA k (h1 k hk), fun k hk => ⟨hA k (h2 k hk).1, (h2 k hk).2⟩, h3, h4⟩
theorem SepTm.mono {w : World} {A A' : Nat → Prop} {x : ByteArray × Int} {a : Option Addr} {c : Nat} {l : Fo} (hA : ∀ k, A k → A' k) (h : SepTm w A x a c l) : SepTm w A' x a c l :=
  ⟨h.sizes, by
    rcases h.list with h | ⟨g, cur, ha, hg, hc, hk⟩
    · exact .inl h
    · exact .inr ⟨g, cur, ha, hA g hg, hc, hk.mono (fun k hk => ⟨hA k hk.1, hk.2⟩)⟩⟩
/-- The cells of the list itself are as they were from this place on; so are the blocks of A. -/
theorem SepKids.keep {w w' : World} : ∀ {F : Fo} {A : Nat → Prop} {b o : Nat}, (∀ k, A k → k < w.heap.size → w'.heap[k]? = w.heap[k]?) → (∀ i v, o ≤ i → w.cell? ⟨b, i, none⟩ = some v → w'.cell? ⟨b, i, none⟩ = some v) → SepKids w F A b o → SepKids w' F A b o
  | .nil, _, _, _, _, _, _ => trivial
  | .node _ _ _ l r, A, b, o, hp, hb, ⟨A1, A2, h1, h2, ⟨a, c, c0, c1, c2, hs, hl⟩, hr⟩ => ⟨A1, A2, h1, h2, ⟨a, c, hb _ _ (Nat.le_refl _) c0, hb _ _ (by omega) c1, hb _ _ (by omega) c2, hs, by
      rcases hl with h | ⟨g, cur, ha, hg, hc, hk⟩
      · exact .inl h
      · have hgg := hp g (h1 g hg) (Array.getElem?_eq_some_iff.1 hc).1
        exact .inr ⟨g, cur, ha, hg, hgg.trans hc, SepKids.keep (fun k hk hlt => hp k (h1 k hk.1) hlt) (fun i v _ hv => (World.cell?_of_block hgg).trans hv) hk⟩⟩,
    SepKids.keep (fun k hk hlt => hp k (h2 k hk).1 hlt) (fun i v hi hv => hb i v (by omega) hv) hr⟩
theorem SepTm.keep {w w' : World} {A : Nat → Prop} {x : ByteArray × Int} {a : Option Addr} {c : Nat} {l : Fo} (hp : ∀ k, A k → k < w.heap.size → w'.heap[k]? = w.heap[k]?) (h : SepTm w A x a c l) : SepTm w' A x a c l :=
  ⟨h.sizes, by
    rcases h.list with h | ⟨g, cur, ha, hg, hc, hk⟩
    · exact .inl h
    · have hgg := hp g hg (Array.getElem?_eq_some_iff.1 hc).1
      exact .inr ⟨g, cur, ha, hg, hgg.trans hc, hk.keep (fun k hk hlt => hp k hk.1 hlt) (fun i v _ hv => (World.cell?_of_block hgg).trans hv)⟩⟩
theorem SepTm.below {w w' : World} {A : Nat → Prop} {x : ByteArray × Int} {a : Option Addr} {c : Nat} {l : Fo} (h : SepTm w A x a c l) (hb : Below w.heap.size w w') : SepTm w' A x a c l := h.keep fun k _ hk => hb.block k hk
/-- The blocks that there are serve. -/
theorem SepKids.within {w : World} : ∀ {F : Fo} {A : Nat → Prop} {b o : Nat}, SepKids w F A b o → SepKids w F (fun k => A k ∧ k < w.heap.size) b o
  | .nil, _, _, _, _ => trivial
  | .node _ _ _ l r, A, b, o, ⟨A1, A2, h1, h2, ⟨a, c, c0, c1, c2, hs, hl⟩, hr⟩ => ⟨fun k => A1 k ∧ k < w.heap.size, fun k => A2 k ∧ k < w.heap.size, fun k hk => ⟨h1 k hk.1, hk.2⟩, fun k hk => ⟨⟨(h2 k hk.1).1, hk.2⟩, fun h => (h2 k hk.1).2 h.1⟩, ⟨a, c, c0, c1, c2, hs, by
      rcases hl with h | ⟨g, cur, ha, hg, hc, hk⟩
      · exact .inl h
      · exact .inr ⟨g, cur, ha, ⟨hg, (Array.getElem?_eq_some_iff.1 hc).1⟩, hc, (SepKids.within hk).mono (fun k hk => ⟨⟨hk.1.1, hk.2⟩, hk.1.2⟩)⟩⟩, SepKids.within hr⟩
theorem SepTm.within {w : World} {A : Nat → Prop} {x : ByteArray × Int} {a : Option Addr} {c : Nat} {l : Fo} (h : SepTm w A x a c l) : SepTm w (fun k => A k ∧ k < w.heap.size) x a c l :=
  ⟨h.sizes, by
    rcases h.list with h | ⟨g, cur, ha, hg, hc, hk⟩
    · exact .inl h
    · exact .inr ⟨g, cur, ha, ⟨hg, (Array.getElem?_eq_some_iff.1 hc).1⟩, hc, hk.within.mono (fun k hk => ⟨⟨hk.1.1, hk.2⟩, hk.1.2⟩)⟩⟩

/-! ### lists of such terms -/
def SepL (w : World) : List Kv → (Nat → Prop) → Prop
  | [], _ => True
  | k :: r, A => ∃ A1 A2 : Nat → Prop, (∀ q, A1 q → A q) ∧ (∀ q, A2 q → A q ∧ ¬ A1 q) ∧ SepTm w A1 k.x k.a k.c k.l ∧ SepL w r A2
theorem SepL.keep {w w' : World} : ∀ {ks : List Kv} {A : Nat → Prop}, (∀ k, A k → k < w.heap.size → w'.heap[k]? = w.heap[k]?) → SepL w ks A → SepL w' ks A
  | [], _, _, _ => trivial
  | _ :: _, _, hp, ⟨A1, A2, h1, h2, h3, h4⟩ => ⟨A1, A2, h1, h2, h3.keep (fun k hk hlt => hp k (h1 k hk) hlt), SepL.keep (fun k hk hlt => hp k (h2 k hk).1 hlt) h4⟩
theorem SepL.mono {w : World} : ∀ {ks : List Kv} {A A' : Nat → Prop}, (∀ k, A k → A' k) → SepL w ks A → SepL w ks A'
  | [], _, _, _, _ => trivial
  | _ :: _, _, _, hA, ⟨A1, A2, h1, h2, h3, h4⟩ => ⟨A1, A2, fun k hk => hA k (h1 k hk), fun k hk => ⟨hA k (h2 k hk).1, (h2 k hk).2⟩, h3, h4⟩
theorem SepL.snoc {w : World} {kv : Kv} {B : Nat → Prop} (hk : SepTm w B kv.x kv.a kv.c kv.l) : ∀ {ks : List Kv} {A : Nat → Prop}, (∀ q, A q → ¬ B q) → SepL w ks A → SepL w (ks ++ [kv]) (fun q => A q ∨ B q)
  | [], A, _, _ => ⟨B, fun _ => False, fun q hq => .inr hq, fun q hq => hq.elim, hk, trivial⟩
  | k :: r, A, hd, ⟨A1, A2, h1, h2, h3, h4⟩ => ⟨A1, fun q => A2 q ∨ B q, fun q hq => .inl (h1 q hq), fun q hq => by
      rcases hq with hq | hq
      · exact ⟨.inl (h2 q hq).1, (h2 q hq).2⟩
      · exact ⟨.inr hq, fun h => hd q (h1 q h) hq⟩, h3, SepL.snoc hk (fun q hq => hd q (h2 q hq).1) h4⟩
theorem sepKids_of {w : World} {b : Nat} : ∀ (F : Fo) (ks : List Kv) (A : Nat → Prop) (o : Nat), ks.map (fun k => (k.x, k.l)) = kidsL F → (∀ j u, (kvCells ks)[j]? = some u → w.cell? ⟨b, o + j, none⟩ = some u) → SepL w ks A → SepKids w F A b o
  | .nil, _, _, _, _, _, _ => trivial
  | .node _ _ x l r, [], _, o, h, _, _ => by simp [kidsL] at h
  | .node _ _ x l r, k :: ks, A, o, h, hc, ⟨A1, A2, h1, h2, h3, h4⟩ => by
    simp only [List.map_cons, kidsL, List.cons.injEq, Prod.mk.injEq] at h
    obtain ⟨⟨rfl, rfl⟩, h⟩ := h
    have e : kvCells (k :: ks) = .string k.x.1 :: .int .i64 k.x.2 :: .slice k.a (lenF k.l) k.c :: kvCells ks := rfl
    rw [e] at hc
    refine ⟨A1, A2, h1, h2, ⟨k.a, k.c, hc 0 _ rfl, hc 1 _ rfl, hc 2 _ rfl, h3.sizes, h3.list⟩, sepKids_of r ks A2 (o + 3) h (fun j u hu => ?_) h4⟩
    have := hc (j + 3) u (by simpa using hu)
    rw [show o + 3 + j = o + (j + 3) by omega]
    exact this
end Go.Proofs.YtppgmepmegelbaaGreatDoor
