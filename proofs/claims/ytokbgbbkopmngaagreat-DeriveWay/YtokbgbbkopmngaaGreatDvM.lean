/- Terms in memory no two of whose lists share a block, each list's block as great as its room. -/
import Derived.Test.YtokbgbbkopmngaaGreatDvR
namespace Go.Proofs.YtokbgbbkopmngaaGreat
open Go.RowKit Go.Deep

/-- From this cell on these terms lie; their own lists have blocks of A, each another, each as great as its room. -/
def FulKids (w : World) : Fo → Bl → Nat → Nat → Prop
  | .nil, _, _, _ => True
  | .node _ _ x l r, A, b, o => ∃ A1 A2 : Bl, (∀ k, A1 k → A k) ∧ (∀ k, A2 k → A k ∧ ¬ A1 k) ∧
      (∃ a c, w.cell? ⟨b, o, none⟩ = some (.string x.1) ∧ w.cell? ⟨b, o + 1, none⟩ = some (.int .i64 x.2) ∧ w.cell? ⟨b, o + 2, none⟩ = some (.slice a (lenF l) c) ∧ Sizes x.1 (lenF l) c ∧
        ((l = .nil ∧ a = none ∧ c = 0) ∨ ∃ g cur, a = some ⟨g, 0, none⟩ ∧ A1 g ∧ w.heap[g]? = some (Obj.cells cur 26 (0, 0)) ∧ cur.size = c * 3 ∧ FulKids w l (fun k => A1 k ∧ k ≠ g) g 0)) ∧ FulKids w r A2 b (o + 3)
structure FulTm (w : World) (A : Bl) (x : ByteArray × Int) (a : Option Addr) (c : Nat) (l : Fo) : Prop where
  sizes : Sizes x.1 (lenF l) c
  list : (l = .nil ∧ a = none ∧ c = 0) ∨ ∃ g cur, a = some ⟨g, 0, none⟩ ∧ A g ∧ w.heap[g]? = some (Obj.cells cur 26 (0, 0)) ∧ cur.size = c * 3 ∧ FulKids w l (fun k => A k ∧ k ≠ g) g 0
theorem FulKids.sep {w : World} : ∀ {F : Fo} {A : Bl} {b o : Nat}, FulKids w F A b o → SepKids w F A b o
  | .nil, _, _, _, _ => trivial
  | .node _ _ _ l r, A, b, o, ⟨A1, A2, h1, h2, ⟨a, c, c0, c1, c2, hs, hl⟩, hr⟩ => ⟨A1, A2, h1, h2, ⟨a, c, c0, c1, c2, hs, by
      rcases hl with ⟨h, _⟩ | ⟨g, cur, ha, hg, hc, _, hk⟩
      · exact .inl h
      · exact .inr ⟨g, cur, ha, hg, hc, FulKids.sep hk⟩⟩, FulKids.sep hr⟩
theorem FulTm.sep {w : World} {A : Bl} {x : ByteArray × Int} {a : Option Addr} {c : Nat} {l : Fo} (h : FulTm w A x a c l) : SepTm w A x a c l :=
  ⟨h.sizes, by
    rcases h.list with ⟨h, _⟩ | ⟨g, cur, ha, hg, hc, _, hk⟩
    · exact .inl h
    · exact .inr ⟨g, cur, ha, hg, hc, hk.sep⟩⟩
theorem FulTm.tm {w : World} {A : Bl} {x : ByteArray × Int} {a : Option Addr} {c : Nat} {l : Fo} (h : FulTm w A x a c l) : TmAt w x a c l := h.sep.tm
theorem FulKids.mono {w : World} : ∀ {F : Fo} {A A' : Bl} {b o : Nat}, (∀ k, A k → A' k) → FulKids w F A b o → FulKids w F A' b o
  | .nil, _, _, _, _, _, _ => trivial
  | .node _ _ _ _ _, _, _, _, _, hA, ⟨A1, A2, h1, h2, h3, h4⟩ => ⟨A1, A2, fun k hk => hA k (h1 k hk), fun k hk => ⟨hA k (h2 k hk).1, (h2 k hk).2⟩, h3, h4⟩
theorem FulTm.mono {w : World} {A A' : Bl} {x : ByteArray × Int} {a : Option Addr} {c : Nat} {l : Fo} (hA : ∀ k, A k → A' k) (h : FulTm w A x a c l) : FulTm w A' x a c l :=
  ⟨h.sizes, by
    rcases h.list with h | ⟨g, cur, ha, hg, hc, hz, hk⟩
    · exact .inl h
    · exact .inr ⟨g, cur, ha, hA g hg, hc, hz, hk.mono (fun k hk => ⟨hA k hk.1, hk.2⟩)⟩⟩
theorem FulKids.keep {w w' : World} : ∀ {F : Fo} {A : Bl} {b o : Nat}, (∀ k, A k → k < w.heap.size → w'.heap[k]? = w.heap[k]?) → (∀ i v, o ≤ i → w.cell? ⟨b, i, none⟩ = some v → w'.cell? ⟨b, i, none⟩ = some v) → FulKids w F A b o → FulKids w' F A b o
  | .nil, _, _, _, _, _, _ => trivial
  | .node _ _ _ l r, A, b, o, hp, hb, ⟨A1, A2, h1, h2, ⟨a, c, c0, c1, c2, hs, hl⟩, hr⟩ => ⟨A1, A2, h1, h2, ⟨a, c, hb _ _ (Nat.le_refl _) c0, hb _ _ (by omega) c1, hb _ _ (by omega) c2, hs, by
      rcases hl with h | ⟨g, cur, ha, hg, hc, hz, hk⟩
      · exact .inl h
      · have hgg := hp g (h1 g hg) (Array.getElem?_eq_some_iff.1 hc).1
        exact .inr ⟨g, cur, ha, hg, hgg.trans hc, hz, FulKids.keep (fun k hk hlt => hp k (h1 k hk.1) hlt) (fun i v _ hv => (World.cell?_of_block hgg).trans hv) hk⟩⟩,
    FulKids.keep (fun k hk hlt => hp k (h2 k hk).1 hlt) (fun i v hi hv => hb i v (by omega) hv) hr⟩
theorem FulTm.keep {w w' : World} {A : Bl} {x : ByteArray × Int} {a : Option Addr} {c : Nat} {l : Fo} (hp : ∀ k, A k → k < w.heap.size → w'.heap[k]? = w.heap[k]?) (h : FulTm w A x a c l) : FulTm w' A x a c l :=
  ⟨h.sizes, by
    rcases h.list with h | ⟨g, cur, ha, hg, hc, hz, hk⟩
    · exact .inl h
    · have hgg := hp g hg (Array.getElem?_eq_some_iff.1 hc).1
      exact .inr ⟨g, cur, ha, hg, hgg.trans hc, hz, hk.keep (fun k hk hlt => hp k hk.1 hlt) (fun i v _ hv => (World.cell?_of_block hgg).trans hv)⟩⟩
theorem FulTm.below {w w' : World} {A : Bl} {x : ByteArray × Int} {a : Option Addr} {c : Nat} {l : Fo} (h : FulTm w A x a c l) (hb : Below w.heap.size w w') : FulTm w' A x a c l := h.keep fun k _ hk => hb.block k hk
theorem FulKids.within {w : World} : ∀ {F : Fo} {A : Bl} {b o : Nat}, FulKids w F A b o → FulKids w F (fun k => A k ∧ k < w.heap.size) b o
  | .nil, _, _, _, _ => trivial
  | .node _ _ _ l r, A, b, o, ⟨A1, A2, h1, h2, ⟨a, c, c0, c1, c2, hs, hl⟩, hr⟩ => ⟨fun k => A1 k ∧ k < w.heap.size, fun k => A2 k ∧ k < w.heap.size, fun k hk => ⟨h1 k hk.1, hk.2⟩, fun k hk => ⟨⟨(h2 k hk.1).1, hk.2⟩, fun h => (h2 k hk.1).2 h.1⟩, ⟨a, c, c0, c1, c2, hs, by
      rcases hl with h | ⟨g, cur, ha, hg, hc, hz, hk⟩
      · exact .inl h
      · exact .inr ⟨g, cur, ha, ⟨hg, (Array.getElem?_eq_some_iff.1 hc).1⟩, hc, hz, (FulKids.within hk).mono (fun k hk => ⟨⟨hk.1.1, hk.2⟩, hk.1.2⟩)⟩⟩, FulKids.within hr⟩
theorem FulTm.within {w : World} {A : Bl} {x : ByteArray × Int} {a : Option Addr} {c : Nat} {l : Fo} (h : FulTm w A x a c l) : FulTm w (fun k => A k ∧ k < w.heap.size) x a c l :=
  ⟨h.sizes, by
    rcases h.list with h | ⟨g, cur, ha, hg, hc, hz, hk⟩
    · exact .inl h
    · exact .inr ⟨g, cur, ha, ⟨hg, (Array.getElem?_eq_some_iff.1 hc).1⟩, hc, hz, hk.within.mono (fun k hk => ⟨⟨hk.1.1, hk.2⟩, hk.1.2⟩)⟩⟩
def FulE (w : World) (A : Bl) (k : Kv) : Prop := FulTm w A k.x k.a k.c k.l
theorem fulE : Elem FulE := ⟨fun h => FulTm.mono h, fun h => FulTm.keep h, FulTm.within⟩

/-! ### a list of terms -/
theorem fulKids_of {w : World} {b : Nat} : ∀ (F : Fo) (ks : List Kv) (A : Bl) (o : Nat), ks.map Kv.tn = kidsL F → (∀ j u, (kvCells ks)[j]? = some u → w.cell? ⟨b, o + j, none⟩ = some u) → GL FulE w ks A → FulKids w F A b o
  | .nil, _, _, _, _, _, _ => trivial
  | .node _ _ x l r, [], _, o, h, _, _ => by simp [kidsL] at h
  | .node _ _ x l r, k :: ks, A, o, h, hc, ⟨A1, A2, h1, h2, h3, h4⟩ => by
    simp only [List.map_cons, kidsL, List.cons.injEq, Prod.mk.injEq, Kv.tn] at h
    obtain ⟨⟨rfl, rfl⟩, h⟩ := h
    have e : kvCells (k :: ks) = .string k.x.1 :: .int .i64 k.x.2 :: .slice k.a (lenF k.l) k.c :: kvCells ks := rfl
    rw [e] at hc
    refine ⟨A1, A2, h1, h2, ⟨k.a, k.c, hc 0 _ rfl, hc 1 _ rfl, hc 2 _ rfl, h3.sizes, h3.list⟩, fulKids_of r ks A2 (o + 3) h (fun j u hu => ?_) h4⟩
    have := hc (j + 3) u (by simpa using hu)
    rw [show o + 3 + j = o + (j + 3) by omega]
    exact this
theorem fulKids_list {w : World} {b : Nat} : ∀ {F : Fo} {A : Bl} {o : Nat}, FulKids w F A b o → ∃ ks : List Kv, ks.map Kv.tn = kidsL F ∧ (∀ j u, (kvCells ks)[j]? = some u → w.cell? ⟨b, o + j, none⟩ = some u) ∧ GL FulE w ks A
  | .nil, A, o, _ => ⟨[], rfl, fun j u hu => by simp [kvCells] at hu, trivial⟩
  | .node _ _ x l r, A, o, ⟨A1, A2, h1, h2, ⟨a, c, c0, c1, c2, hs, hl⟩, hr⟩ => by
    obtain ⟨ks, k1, k2, k3⟩ := fulKids_list hr
    refine ⟨⟨x, l, a, c⟩ :: ks, by simp [kidsL, Kv.tn, k1], fun j u hu => ?_, A1, A2, h1, h2, ⟨hs, hl⟩, k3⟩
    have e : kvCells (⟨x, l, a, c⟩ :: ks) = .string x.1 :: .int .i64 x.2 :: .slice a (lenF l) c :: kvCells ks := rfl
    rw [e] at hu
    match j, hu with
    | 0, hu => cases hu; exact c0
    | 1, hu => cases hu; exact c1
    | 2, hu => cases hu; exact c2
    | j + 3, hu => have := k2 j u (by simpa using hu); rw [show o + (j + 3) = o + 3 + j by omega]; exact this
/-- A term's row, and its terms; none where it has no list. -/
structure RowOf (w : World) (A : Bl) (a : Option Addr) (c : Nat) (ks : List Kv) : Prop where
  few : ks.length * 48 ≤ 140737488351232
  row : (ks = [] ∧ a = none ∧ c = 0) ∨ ∃ g, a = some ⟨g, 0, none⟩ ∧ A g ∧ RowV w g c ks ∧ GL FulE w ks (fun q => A q ∧ q ≠ g)
theorem FulTm.open {w : World} {A : Bl} {x : ByteArray × Int} {a : Option Addr} {c : Nat} {l : Fo} (h : FulTm w A x a c l) : ∃ ks : List Kv, ks.map Kv.tn = kidsL l ∧ RowOf w A a c ks := by
  rcases h.list with ⟨rfl, h1, h2⟩ | ⟨g, cur, ha, hg, hc, hz, hk⟩
  · exact ⟨[], rfl, by simp, .inl ⟨rfl, h1, h2⟩⟩
  · obtain ⟨ks, k1, k2, k3⟩ := fulKids_list hk
    have hkl : ks.length = lenF l := by have := congrArg List.length k1; rwa [List.length_map, kids_len] at this
    refine ⟨ks, k1, by rw [hkl]; exact h.sizes.few, .inr ⟨g, ha, hg, ⟨⟨cur, hc, hz, ?_⟩, by rw [hkl]; exact h.sizes.len, h.sizes.cap⟩, k3⟩⟩
    apply List.ext_getElem?
    intro j
    by_cases hj : j < ks.length * 3
    · obtain ⟨u, hu⟩ := kvCells_get (ks := ks) (j := j) hj
      have hcc := k2 j u hu
      rw [Nat.zero_add, cell_of_row w g j cur 26 (0, 0) hc] at hcc
      rw [List.getElem?_take_of_lt hj, hu, ← hcc]
      simp
    · rw [List.getElem?_eq_none (by rw [List.length_take]; omega), List.getElem?_eq_none (by rw [kvCells_len]; omega)]
theorem RowOf.tm {w : World} {A : Bl} {x : ByteArray × Int} {a : Option Addr} {c : Nat} {ks : List Kv} (h : RowOf w A a c ks) (hx : x.1.size ≤ maxLen) : FulTm w A x a c (mkF (ks.map Kv.tn)) := by
  have hlm : lenF (mkF (ks.map Kv.tn)) = ks.length := by rw [len_mk, List.length_map]
  rcases h.row with ⟨rfl, rfl, rfl⟩ | ⟨g, rfl, hg, hR, hG⟩
  · exact ⟨⟨hx, by simp [mkF, lenF], Nat.zero_le _, by simp [mkF, lenF]⟩, .inl ⟨rfl, rfl, rfl⟩⟩
  · obtain ⟨cur, r1, r2, r3⟩ := hR.row
    refine ⟨⟨hx, by rw [hlm]; exact hR.fits, hR.small, by rw [hlm]; exact h.few⟩, .inr ⟨g, cur, rfl, hg, r1, r2, ?_⟩⟩
    refine fulKids_of _ ks _ 0 (by rw [kids_mk]) (fun j u hu => ?_) hG
    rw [Nat.zero_add]
    exact hR.cells hu
theorem RowOf.len {w : World} {A : Bl} {a : Option Addr} {c : Nat} {ks : List Kv} (h : RowOf w A a c ks) : ks.length ≤ c ∧ c ≤ maxLen := by
  rcases h.row with ⟨rfl, _, rfl⟩ | ⟨g, _, _, hR, _⟩
  · exact ⟨Nat.le_refl _, Nat.zero_le _⟩
  · exact ⟨hR.fits, hR.small⟩
theorem RowV.keep {w w' : World} {g c : Nat} {ks : List Kv} (h : RowV w g c ks) (hg : w'.heap[g]? = w.heap[g]?) : RowV w' g c ks := by
  obtain ⟨cur, h1, h2, h3⟩ := h.row
  exact ⟨⟨cur, hg.trans h1, h2, h3⟩, h.fits, h.small⟩
theorem RowV.lt {w : World} {g c : Nat} {ks : List Kv} (h : RowV w g c ks) : g < w.heap.size := by
  obtain ⟨cur, h1, _⟩ := h.row
  exact (Array.getElem?_eq_some_iff.1 h1).1
theorem RowOf.keep {w w' : World} {A : Bl} {a : Option Addr} {c : Nat} {ks : List Kv} (hp : ∀ k, A k → k < w.heap.size → w'.heap[k]? = w.heap[k]?) (h : RowOf w A a c ks) : RowOf w' A a c ks := by
  refine ⟨h.few, ?_⟩
  rcases h.row with h1 | ⟨g, ha, hg, hR, hG⟩
  · exact .inl h1
  · exact .inr ⟨g, ha, hg, hR.keep (hp g hg hR.lt), hG.keep fulE (fun k hk => hp k hk.1)⟩
theorem RowOf.below {w w' : World} {A : Bl} {a : Option Addr} {c : Nat} {ks : List Kv} (h : RowOf w A a c ks) (hb : Below w.heap.size w w') : RowOf w' A a c ks := h.keep fun k _ hk => hb.block k hk
end Go.Proofs.YtokbgbbkopmngaaGreat
