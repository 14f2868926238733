/- The tally's cells; what a walk over all ways keeps. -/
import Derived.Test.YtdpdpjfnanjmgaaDoorSpZ
import Derived.Test.YtdpdpjfnanjmgaaDoorSpAf
namespace Go.Proofs.YtdpdpjfnanjmgaaDoor
open Go.RowKit Go.Shelf

def tlC (f : Nat → Nat) : List Value := (List.range 32).map fun i => .int .i64 ((f i : Nat) : Int)
theorem tlC_len (f : Nat → Nat) : (tlC f).length = 32 := by simp [tlC]
theorem tlC_at (f : Nat → Nat) {i : Nat} (h : i < 32) : (tlC f)[i]? = some (.int .i64 ((f i : Nat) : Int)) := by
  unfold tlC; rw [List.getElem?_map, List.getElem?_range h]; rfl
theorem tlC_one (f : Nat → Nat) : ∀ u ∈ tlC f, u.oneCell' = true := fun u hu => by
  obtain ⟨_, _, rfl⟩ := List.mem_map.1 hu; rfl
/-- A tally in memory. -/
def TlAt (W : World) (b : Nat) (f : Nat → Nat) : Prop := W.heap[b]? = some (.cells (tlC f).toArray 42 (0, 0))
theorem TlAt.get {W : World} {b : Nat} {f : Nat → Nat} (h : TlAt W b f) {s : Nat} (hs : s < 32) : W.cell? ⟨b, s, none⟩ = some (.int .i64 ((f s : Nat) : Int)) := cell_box h (by
  rw [List.getElem?_toArray, tlC_at f hs])
theorem TlAt.fz {W : World} {b : Nat} {f : Nat → Nat} (h : TlAt W b f) (i : Nat) : W.frozen? ⟨b, i, none⟩ = false := by
  unfold TlAt at h; simp [World.frozen?, h]
theorem TlAt.ext {W : World} {b : Nat} {f g : Nat → Nat} (h : TlAt W b f) (hfg : ∀ s, s < 32 → f s = g s) : TlAt W b g := by
  unfold TlAt at h ⊢
  rw [h]
  congr 2
  unfold tlC
  congr 1
  refine List.map_congr_left fun q hq => ?_
  rw [List.mem_range] at hq
  rw [hfg _ hq]
theorem TlAt.put {W : World} {b : Nat} {f : Nat → Nat} (h : TlAt W b f) (s v : Nat) : TlAt (W.setCell ⟨b, s, none⟩ (.int .i64 (v : Int))) b (fun x => if x = s then v else f x) := by
  have h1 := block_set h (k := s) (.int .i64 (v : Int))
  unfold TlAt
  rw [h1]
  congr 2
  refine Array.ext_getElem? fun q => ?_
  by_cases hq : q < 32
  · rw [Array.getElem?_setIfInBounds, List.getElem?_toArray, List.getElem?_toArray, tlC_at _ hq, tlC_at _ hq, List.size_toArray, tlC_len]
    by_cases e : s = q
    · subst e
      rw [if_pos rfl, if_pos hq, if_pos rfl]
    · rw [if_neg e, if_neg (fun h => e h.symm)]
  · rw [Array.getElem?_eq_none (by simp only [Array.size_setIfInBounds, List.size_toArray, tlC_len]; omega), Array.getElem?_eq_none (by simp only [List.size_toArray, tlC_len]; omega)]
theorem TlAt.same {W W' : World} {b : Nat} {f : Nat → Nat} (h : TlAt W b f) (hs : W'.heap[b]? = W.heap[b]?) : TlAt W' b f := Eq.trans hs h
theorem TlAt.lt {W : World} {b : Nat} {f : Nat → Nat} (h : TlAt W b f) : b < W.heap.size := (Array.getElem?_eq_some_iff.1 h).1
theorem TlAt.below {W W' : World} {b : Nat} {f : Nat → Nat} (h : TlAt W b f) (hb : Below W.heap.size W W') : TlAt W' b f := h.same (hb.block b h.lt)
theorem TlAt.range {W : World} {b : Nat} {f : Nat → Nat} (h : TlAt W b f) : W.rangeAt b 0 (tlC f) := fun j v hv => by
  rw [Nat.zero_add]
  exact cell_box h (by rw [List.getElem?_toArray]; exact hv)
theorem TlAt.there {W : World} {b : Nat} {f : Nat → Nat} (h : TlAt W b f) (g : Nat → Nat) : W.there b 0 (tlC g).toArray.size := fun j hj => by
  rw [List.size_toArray, tlC_len] at hj
  rw [Nat.zero_add]
  refine ⟨?_, h.fz j⟩
  rw [h.get hj]
  rfl
theorem size42 {f : Nat → Nat} : (Tryd.prog.info? 42).map (·.size) = some (tlC f).length := by
  rw [tlC_len]; kernel_rfl
/-- A tally of sets. -/
def tlV (A : List Nat) : Value := .agg (tlC fun s => A.count s).toArray
/-- What a walk over all ways keeps: the iterator's own blocks lie behind lim, of those ahead only its consumer's own have changed. -/
structure AK (Ws : World) (lim : Nat) (own : Nat → Prop) (M : Nat → Prop) (W : World) : Prop where
  mm : ∀ b, M b → lim ≤ b
  sz : lim ≤ W.heap.size
  fr : Fr (fun b => own b ∨ lim ≤ b) Ws W
theorem AK.go {Ws : World} {lim : Nat} {own M M' : Nat → Prop} {W W' : World} (h : AK Ws lim own M W) (hf : Fr M W W') (hm : ∀ b, M' b → M b ∨ W.heap.size ≤ b) : AK Ws lim own M' W' :=
  ⟨fun b hb => (hm b hb).elim (h.mm b) fun h1 => Nat.le_trans h.sz h1, Nat.le_trans h.sz hf.low.size, h.fr.trans (hf.mono fun q hq => .inr (h.mm q hq))⟩
theorem AK.own {Ws : World} {lim : Nat} {own M : Nat → Prop} {W W' : World} (h : AK Ws lim own M W) (hf : Fr own W W') : AK Ws lim own M W' :=
  ⟨h.mm, Nat.le_trans h.sz hf.low.size, h.fr.trans (hf.mono fun _ hq => .inl hq)⟩
theorem AK.blk {Ws : World} {lim : Nat} {own M : Nat → Prop} {W : World} (h : AK Ws lim own M W) {b : Nat} (hb : b < Ws.heap.size) (hl : b < lim) (ho : ¬ own b) : W.heap[b]? = Ws.heap[b]? := h.fr.same b hb fun h1 => h1.elim ho fun h2 => by omega
theorem IntsAt.fr {A : Nat → Prop} {w w' : World} {a : Option Addr} {ns : List Int} (h : IntsAt w a ns) (hf : Fr A w w') (hA : ∀ g o, a = some ⟨g, o, none⟩ → ¬ A g) : IntsAt w' a ns :=
  ⟨h.small, fun i hi => let ⟨b, o, h1, h2⟩ := h.cells i hi; ⟨b, o, h1, hf.cell h2 (hA b o h1)⟩⟩
theorem Tab.fr {A : Nat → Prop} {w w' : World} (h : Tab w) (hf : Fr A w w') (hA : ¬ A 0) : Tab w' := fun i hi => hf.cell (h i hi) hA
/-- The walk over the ways of one kind. -/
structure WtK (k : List Nat) (n : Nat) (A : List Nat) (Ws : World) (lim Mo lp : Nat) (r : Loop) (i : Nat) (M : Nat → Prop) (W : World) : Prop where
  ak : AK Ws lim (fun b => b = Mo ∨ b = lp) M W
  tl : TlAt W Mo (fun s => (afterN k n i A).count s)
  lp : W.heap[lp]? = some (.loop r)
theorem or32 {a b : Nat} (ha : a < 32) (hb : b < 32) : a ||| b < 32 := Nat.or_lt_two_pow (n := 5) ha hb
theorem WayAt.same {w w' : World} {base g K T : Nat} {rows : List (List Nat)} (h : WayAt w base g K T rows) (hs : ∀ b, base ≤ b → b < w.heap.size → w'.heap[b]? = w.heap[b]?) : WayAt w' base g K T rows :=
  ⟨h.low, by
    obtain ⟨cur, h1, h2, h3, h4⟩ := h.blk
    refine ⟨cur, (hs _ h.low (Array.getElem?_eq_some_iff.1 h1).1).trans h1, h2, h3, fun i hi => ?_⟩
    obtain ⟨g1, p, c, g2, g3, g4⟩ := h4 i hi
    exact ⟨g1, p, c, g2, g3.same hs, g4⟩⟩
/-- A row of a way, and its numbers. -/
theorem WayAt.row {w : World} {base g K T : Nat} {rows : List (List Nat)} (h : WayAt w base g K T rows) {i : Nat} (hi : i < rows.length) : ∃ p c, w.cell? ⟨g, i, none⟩ = some (.slice p K c) ∧ IntsAt w p (up rows[i]) ∧ rows[i].length = K := by
  obtain ⟨cur, h1, h2, h3, h4⟩ := h.blk
  obtain ⟨g1, p, c, g2, g3, g4⟩ := h4 i hi
  exact ⟨p, c, cell_box h1 g2, g3.ints, g1⟩
theorem wd_all (m k : List Nat) (e : Bool) : wd m.length k ⟨[], m, needN e k⟩ = waysF m k e := by
  unfold wd waysF needN
  simp
theorem allB_lt {T : Nat} (h : T ≤ 5) : allB T < 32 := by
  unfold allB
  have := Nat.pow_le_pow_right (show 0 < 2 by omega) h
  omega
theorem need_lt (e : Bool) {k : List Nat} (h : k.length ≤ 5) : needN e k < 32 := by
  unfold needN
  split
  · exact allB_lt h
  · decide
theorem dl_ok {m k : List Nat} (e : Bool) (h : Fine m k) : Dl.Ok ⟨[], m, needN e k⟩ m.length k.length :=
  ⟨Nat.zero_le _, rfl, fun j => by
    show m.getD j 0 ≤ 6
    rw [List.getD_eq_getElem?_getD]
    by_cases hj : j < m.length
    · rw [List.getElem?_eq_getElem hj]; exact h.small _ (List.getElem_mem _)
    · rw [List.getElem?_eq_none (by omega)]; exact Nat.zero_le _, need_lt e h.takers⟩
theorem way_len {m k : List Nat} {e : Bool} (hk : ∀ x ∈ k, 1 ≤ x) {v : List Nat} (hv : v ∈ waysF m k e) : v.length = m.length * k.length := by
  obtain ⟨R, hR, rfl⟩ := (waysF_mem hk v).1 hv
  obtain ⟨g1, g2, _⟩ := (WW_mem k m hk R).1 hR
  rw [flat_len (K := m.length) R fun r hr => (g2 r hr).1, g1]
end Go.Proofs.YtdpdpjfnanjmgaaDoor
