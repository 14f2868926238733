/- Lists of terms in memory no two of which share a block; terms whose own list may still be written. -/
import Derived.Test.YtokbgbbkopmngaaGreatTClone
import Derived.Test.YtokbgbbkopmngaaGreatRSort
namespace Go.Proofs.YtokbgbbkopmngaaGreat
open Go.RowKit Go.Deep

abbrev Bl := Nat → Prop
/-- Of these terms each has what E says, with blocks of its own among A. -/
def GL (E : World → Bl → Kv → Prop) (w : World) : List Kv → Bl → Prop
  | [], _ => True
  | k :: r, A => ∃ A1 A2 : Bl, (∀ q, A1 q → A q) ∧ (∀ q, A2 q → A q ∧ ¬ A1 q) ∧ E w A1 k ∧ GL E w r A2
structure Elem (E : World → Bl → Kv → Prop) : Prop where
  mono : ∀ {w : World} {A A' : Bl} {k : Kv}, (∀ q, A q → A' q) → E w A k → E w A' k
  keep : ∀ {w w' : World} {A : Bl} {k : Kv}, (∀ q, A q → q < w.heap.size → w'.heap[q]? = w.heap[q]?) → E w A k → E w' A k
  within : ∀ {w : World} {A : Bl} {k : Kv}, E w A k → E w (fun q => A q ∧ q < w.heap.size) k
variable {E : World → Bl → Kv → Prop}
theorem GL.mono {w : World} : ∀ {ks : List Kv} {A A' : Bl}, (∀ k, A k → A' k) → GL E w ks A → GL E w ks A'
  | [], _, _, _, _ => trivial
  | _ :: _, _, _, hA, ⟨A1, A2, h1, h2, h3, h4⟩ => ⟨A1, A2, fun k hk => hA k (h1 k hk), fun k hk => ⟨hA k (h2 k hk).1, (h2 k hk).2⟩, h3, h4⟩
theorem GL.keep (hE : Elem E) {w w' : World} : ∀ {ks : List Kv} {A : Bl}, (∀ k, A k → k < w.heap.size → w'.heap[k]? = w.heap[k]?) → GL E w ks A → GL E w' ks A
  | [], _, _, _ => trivial
  | _ :: _, _, hp, ⟨A1, A2, h1, h2, h3, h4⟩ => ⟨A1, A2, h1, h2, hE.keep (fun k hk hlt => hp k (h1 k hk) hlt) h3, GL.keep hE (fun k hk hlt => hp k (h2 k hk).1 hlt) h4⟩
theorem GL.within (hE : Elem E) {w : World} : ∀ {ks : List Kv} {A : Bl}, GL E w ks A → GL E w ks (fun q => A q ∧ q < w.heap.size)
  | [], _, _ => trivial
  | _ :: _, _, ⟨A1, A2, h1, h2, h3, h4⟩ => ⟨fun q => A1 q ∧ q < w.heap.size, fun q => A2 q ∧ q < w.heap.size, fun q hq => ⟨h1 q hq.1, hq.2⟩, fun q hq => ⟨⟨(h2 q hq.1).1, hq.2⟩, fun h => (h2 q hq.1).2 h.1⟩, hE.within h3, GL.within hE h4⟩
theorem GL.weak {E' : World → Bl → Kv → Prop} {w : World} (h : ∀ A k, E w A k → E' w A k) : ∀ {ks : List Kv} {A : Bl}, GL E w ks A → GL E' w ks A
  | [], _, _ => trivial
  | _ :: _, _, ⟨A1, A2, h1, h2, h3, h4⟩ => ⟨A1, A2, h1, h2, h A1 _ h3, GL.weak h h4⟩
theorem GL.perm {w : World} {ks ms : List Kv} (hp : List.Perm ks ms) : ∀ {A : Bl}, GL E w ks A → GL E w ms A := by
  induction hp with
  | nil => exact fun h => h
  | cons k _ ih => exact fun ⟨A1, A2, h1, h2, h3, h4⟩ => ⟨A1, A2, h1, h2, h3, ih h4⟩
  | swap a b l =>
    rintro A ⟨A1, A2, h1, h2, h3, B1, B2, k1, k2, k3, k4⟩
    refine ⟨B1, fun q => A1 q ∨ B2 q, fun q hq => (h2 q (k1 q hq)).1, fun q hq => ?_, k3, A1, B2, fun q hq => .inl hq, fun q hq => ⟨.inr hq, ?_⟩, h3, k4⟩
    · rcases hq with hq | hq
      · exact ⟨h1 q hq, fun hb => (h2 q (k1 q hb)).2 hq⟩
      · exact ⟨(h2 q (k2 q hq).1).1, (k2 q hq).2⟩
    · exact (h2 q (k2 q hq).1).2
  | trans _ _ ih1 ih2 => exact fun h => ih2 (ih1 h)
theorem GL.append {w : World} {B : Bl} {ms : List Kv} (hm : GL E w ms B) : ∀ {ks : List Kv} {A : Bl}, (∀ q, A q → ¬ B q) → GL E w ks A → GL E w (ks ++ ms) (fun q => A q ∨ B q)
  | [], _, _, _ => hm.mono fun _ hq => .inr hq
  | k :: r, A, hd, ⟨A1, A2, h1, h2, h3, h4⟩ => ⟨A1, fun q => A2 q ∨ B q, fun q hq => .inl (h1 q hq), fun q hq => by
      rcases hq with hq | hq
      · exact ⟨.inl (h2 q hq).1, (h2 q hq).2⟩
      · exact ⟨.inr hq, fun h => hd q (h1 q h) hq⟩, h3, GL.append hm (fun q hq => hd q (h2 q hq).1) h4⟩
theorem GL.one {w : World} {k : Kv} {A : Bl} (h : E w A k) : GL E w [k] A := ⟨A, fun _ => False, fun _ hq => hq, fun _ hq => hq.elim, h, trivial⟩
theorem GL.cons {w : World} {k : Kv} {ks : List Kv} {A B : Bl} (h : E w A k) (hk : GL E w ks B) (hd : ∀ q, A q → ¬ B q) : GL E w (k :: ks) (fun q => A q ∨ B q) := GL.append hk hd (GL.one h)
theorem GL.snoc {w : World} {k : Kv} {ks : List Kv} {A B : Bl} (hk : GL E w ks A) (h : E w B k) (hd : ∀ q, A q → ¬ B q) : GL E w (ks ++ [k]) (fun q => A q ∨ B q) := GL.append (GL.one h) hd hk
theorem GL.right {w : World} : ∀ {ks ms : List Kv} {A : Bl}, GL E w (ks ++ ms) A → GL E w ms A
  | [], _, _, h => h
  | _ :: _, _, _, ⟨_, _, _, h2, _, h4⟩ => (GL.right h4).mono fun q hq => (h2 q hq).1
theorem GL.left {w : World} {ks ms : List Kv} {A : Bl} (h : GL E w (ks ++ ms) A) : GL E w ks A := GL.right (h.perm List.perm_append_comm)
theorem GL.mem {w : World} {ks : List Kv} {A : Bl} {k : Kv} (h : GL E w ks A) (hk : k ∈ ks) : ∃ A1 : Bl, (∀ q, A1 q → A q) ∧ E w A1 k := by
  obtain ⟨l1, l2, rfl⟩ := List.append_of_mem hk
  obtain ⟨A1, A2, h1, _, h3, _⟩ := h.right
  exact ⟨A1, h1, h3⟩
theorem GL.filter {w : World} (p : Kv → Bool) : ∀ {ks : List Kv} {A : Bl}, GL E w ks A → GL E w (ks.filter p) A
  | [], _, _ => trivial
  | k :: r, A, ⟨A1, A2, h1, h2, h3, h4⟩ => by
    rw [List.filter_cons]
    have h5 := GL.filter p h4
    split
    · exact ⟨A1, A2, h1, h2, h3, h5⟩
    · exact h5.mono fun q hq => (h2 q hq).1

/-! ### terms, and terms whose own list may be written -/
def SepE (w : World) (A : Bl) (k : Kv) : Prop := SepTm w A k.x k.a k.c k.l
def RowK (w : World) (A : Bl) (k : Kv) : Prop := (k.a = none ∧ k.c = 0 ∧ lenF k.l = 0) ∨ ∃ g cur, k.a = some ⟨g, 0, none⟩ ∧ A g ∧ w.heap[g]? = some (Obj.cells cur 26 (0, 0)) ∧ cur.size = k.c * 3
def LoosE (w : World) (A : Bl) (k : Kv) : Prop := SepE w A k ∧ (noName k.x.1 = true → RowK w A k)
theorem sepE : Elem SepE := ⟨fun h => SepTm.mono h, fun h => SepTm.keep h, SepTm.within⟩
theorem RowK.mono {w : World} {A A' : Bl} {k : Kv} (hA : ∀ q, A q → A' q) (h : RowK w A k) : RowK w A' k := by
  rcases h with h | ⟨g, cur, h1, h2, h3, h4⟩
  · exact .inl h
  · exact .inr ⟨g, cur, h1, hA g h2, h3, h4⟩
theorem RowK.keep {w w' : World} {A : Bl} {k : Kv} (hp : ∀ q, A q → q < w.heap.size → w'.heap[q]? = w.heap[q]?) (h : RowK w A k) : RowK w' A k := by
  rcases h with h | ⟨g, cur, h1, h2, h3, h4⟩
  · exact .inl h
  · exact .inr ⟨g, cur, h1, h2, (hp g h2 (Array.getElem?_eq_some_iff.1 h3).1).trans h3, h4⟩
theorem loosE : Elem LoosE :=
  ⟨fun hA h => ⟨sepE.mono hA h.1, fun e => (h.2 e).mono hA⟩, fun hp h => ⟨sepE.keep hp h.1, fun e => (h.2 e).keep hp⟩, fun h => ⟨sepE.within h.1, fun e => by
    rcases h.2 e with h' | ⟨g, cur, h1, h2, h3, h4⟩
    · exact .inl h'
    · exact .inr ⟨g, cur, h1, ⟨h2, (Array.getElem?_eq_some_iff.1 h3).1⟩, h3, h4⟩⟩⟩
theorem gl_sepL {w : World} : ∀ {ks : List Kv} {A : Bl}, GL SepE w ks A ↔ SepL w ks A
  | [], _ => Iff.rfl
  | k :: r, A => by
    simp only [GL, SepL]
    constructor
    · rintro ⟨A1, A2, h1, h2, h3, h4⟩
      exact ⟨A1, A2, h1, h2, h3, gl_sepL.1 h4⟩
    · rintro ⟨A1, A2, h1, h2, h3, h4⟩
      exact ⟨A1, A2, h1, h2, h3, gl_sepL.2 h4⟩
/-- What lies there, term by term. -/
theorem sepKids_list {w : World} {b : Nat} : ∀ {F : Fo} {A : Bl} {o : Nat}, SepKids w F A b o → ∃ ks : List Kv, ks.map Kv.tn = kidsL F ∧ (∀ j u, (kvCells ks)[j]? = some u → w.cell? ⟨b, o + j, none⟩ = some u) ∧ GL SepE w ks A
  | .nil, A, o, _ => ⟨[], rfl, fun j u hu => by simp [kvCells] at hu, trivial⟩
  | .node _ _ x l r, A, o, ⟨A1, A2, h1, h2, ⟨a, c, c0, c1, c2, hs, hl⟩, hr⟩ => by
    obtain ⟨ks, k1, k2, k3⟩ := sepKids_list hr
    refine ⟨⟨x, l, a, c⟩ :: ks, by simp [kidsL, Kv.tn, k1], fun j u hu => ?_, A1, A2, h1, h2, ⟨hs, hl⟩, k3⟩
    have e : kvCells (⟨x, l, a, c⟩ :: ks) = .string x.1 :: .int .i64 x.2 :: .slice a (lenF l) c :: kvCells ks := rfl
    rw [e] at hu
    match j, hu with
    | 0, hu => cases hu; exact c0
    | 1, hu => cases hu; exact c1
    | 2, hu => cases hu; exact c2
    | j + 3, hu => have := k2 j u (by simpa using hu); rw [show o + (j + 3) = o + 3 + j by omega]; exact this
theorem kvCells_get {ks : List Kv} {j : Nat} (h : j < ks.length * 3) : ∃ u, (kvCells ks)[j]? = some u := ⟨_, List.getElem?_eq_getElem (by rw [kvCells_len]; exact h)⟩
/-- A term whose list may be written: its row, and its terms. -/
theorem LoosE.row {w : World} {A : Bl} {k : Kv} (h : LoosE w A k) (hn : noName k.x.1 = true) : ∃ ks : List Kv, ks.map Kv.tn = kidsL k.l ∧ (∀ B, (∀ q, A q → B ≤ q) → w.ownsRow B 26 3 (.slice k.a (lenF k.l) k.c) (lenF k.l) (kvCells ks)) ∧
    GL SepE w ks (fun q => A q ∧ some q ≠ (Value.slice k.a (lenF k.l) k.c).ownBlock) ∧ ∀ g, (Value.slice k.a (lenF k.l) k.c).ownBlock = some g → A g := by
  obtain ⟨hs, hr⟩ := h
  rcases hr hn with ⟨h1, h2, h3⟩ | ⟨g, cur, h1, h2, h3, h4⟩
  · have e : kidsL k.l = [] := by rw [len_nil h3]; rfl
    refine ⟨[], by rw [e]; rfl, fun B _ => ⟨by simp [kvCells, h3], .inl ⟨by rw [h1, h2, h3], h3⟩⟩, trivial, fun g hg => ?_⟩
    rw [h1] at hg
    cases hg
  · have hcap := hs.sizes.cap
    have hlen := hs.sizes.len
    have main : ∃ ks : List Kv, ks.map Kv.tn = kidsL k.l ∧ (∀ j u, (kvCells ks)[j]? = some u → w.cell? ⟨g, 0 + j, none⟩ = some u) ∧ GL SepE w ks (fun q => A q ∧ q ≠ g) := by
      rcases hs.list with e | ⟨g', cur', e1, e2, e3, e4⟩
      · exact ⟨[], by rw [e]; rfl, fun j u hu => by simp [kvCells] at hu, trivial⟩
      · rw [h1] at e1
        cases e1
        exact sepKids_list e4
    obtain ⟨ks, k1, k2, k3⟩ := main
    have hkl : ks.length = lenF k.l := by have := congrArg List.length k1; rwa [List.length_map, kids_len] at this
    refine ⟨ks, k1, fun B hB => ⟨by rw [kvCells_len, hkl], .inr ⟨g, k.c, cur, by rw [h1], hB g h2, h3, hlen, hcap, h4, ?_⟩⟩, k3.mono (fun q hq => ⟨hq.1, by rw [h1]; intro e; cases e; exact hq.2 rfl⟩), fun g' hg' => ?_⟩
    · apply List.ext_getElem?
      intro j
      by_cases hj : j < lenF k.l * 3
      · obtain ⟨u, hu⟩ := kvCells_get (ks := ks) (j := j) (by rw [hkl]; exact hj)
        have hc := k2 j u hu
        rw [Nat.zero_add, cell_of_row w g j cur 26 (0, 0) h3] at hc
        rw [List.getElem?_take_of_lt hj, hu, ← hc]
        simp
      · rw [List.getElem?_eq_none (by rw [List.length_take]; omega), List.getElem?_eq_none (by rw [kvCells_len, hkl]; omega)]
    · rw [h1] at hg'
      cases hg'
      exact h2
/-- And back: a row that may be written, and terms beside it. -/
theorem loosE_of {w : World} {B : Nat} {A : Bl} {x : ByteArray × Int} {v : Value} {ks : List Kv} (hx : x.1.size ≤ maxLen) (hown : w.ownsRow B 26 3 v ks.length (kvCells ks)) (hg : ∀ g, v.ownBlock = some g → A g) (hks : GL SepE w ks (fun q => A q ∧ some q ≠ v.ownBlock)) (hfew : ks.length * 48 ≤ 140737488351232) :
    ∃ a c, v = .slice a ks.length c ∧ LoosE w A ⟨x, mkF (ks.map Kv.tn), a, c⟩ := by
  have hlm : lenF (mkF (ks.map Kv.tn)) = ks.length := by rw [len_mk, List.length_map]
  rcases hown.2 with ⟨h1, h2⟩ | ⟨g, cap, cur, h1, h2, h3, h4, h5, h6, h7⟩
  · have e : ks = [] := List.length_eq_zero_iff.1 h2
    subst e
    exact ⟨none, 0, h1, ⟨⟨hx, Nat.le_refl _, Nat.zero_le _, by simp [mkF, lenF]⟩, .inl rfl⟩, fun _ => .inl ⟨rfl, rfl, rfl⟩⟩
  · refine ⟨some ⟨g, 0, none⟩, cap, h1, ⟨⟨hx, by rw [hlm]; exact h4, h5, by rw [hlm]; exact hfew⟩, .inr ⟨g, cur, rfl, hg g (by rw [h1]; rfl), h3, ?_⟩⟩, fun _ => .inr ⟨g, cur, rfl, hg g (by rw [h1]; rfl), h3, h6⟩⟩
    refine sepKids_of _ ks _ 0 (by rw [kids_mk]; rfl) (fun j u hu => ?_) (gl_sepL.1 (hks.mono fun q hq => ⟨hq.1, fun e => hq.2 (by rw [e, h1]; rfl)⟩))
    rw [h1] at hown
    exact owns_at hown j u hu
theorem SepE.own {w : World} {A : Bl} {k : Kv} (h : SepE w A k) : OwnTm false A w k.x k.a k.c k.l := by
  have go : ∀ (F : Fo) (A : Bl) (b o : Nat), SepKids w F A b o → OwnKids false A w F b o := by
    intro F
    induction F with
    | nil => intro _ _ _ _; trivial
    | node _ _ x l r ihl ihr =>
      rintro A b o ⟨A1, A2, h1, h2, ⟨a, c, c0, c1, c2, hs, hl⟩, hr⟩
      refine ⟨⟨a, c, c0, c1, c2, hs, ?_⟩, (ihr A2 b (o + 3) hr).mono (fun q _ hq => (h2 q hq).1)⟩
      rcases hl with e | ⟨g, cur, e1, e2, e3, e4⟩
      · exact .inl ⟨e, rfl⟩
      · exact .inr ⟨g, cur, e1, h1 g e2, e3, (by intro e; cases e), (ihl _ g 0 e4).mono (fun q _ hq => h1 q hq.1)⟩
  refine ⟨h.sizes, ?_⟩
  rcases h.list with e | ⟨g, cur, e1, e2, e3, e4⟩
  · exact .inl ⟨e, rfl⟩
  · exact .inr ⟨g, cur, e1, e2, e3, (by intro e; cases e), (go _ _ g 0 e4).mono (fun q _ hq => hq.1)⟩
end Go.Proofs.YtokbgbbkopmngaaGreat
