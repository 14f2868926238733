import Derived.Test.YtfnfbljijkjkjaaGreatKUfA
/- Rows in which a term's cells are stored over. -/
namespace Go.Proofs.YtfnfbljijkjkjaaGreat
open Go.RowKit Go.Shelf Go.Deep

theorem owns_set1 {w : World} {base e size g n cap : Nat} {xs : List Value} (h : w.ownsRow base e size (.slice (some ⟨g, 0, none⟩) n cap) n xs) (o : Nat) (u : Value) : (w.setCell ⟨g, o, none⟩ u).ownsRow base e size (.slice (some ⟨g, 0, none⟩) n cap) n (xs.set o u) := by
  refine ⟨by rw [List.length_set]; exact h.1, ?_⟩
  rcases h.2 with ⟨h1, _⟩ | ⟨g', cap', cur, h1, h2, h3, h4, h5, h6, h7⟩
  · cases h1
  · cases h1
    refine .inr ⟨g, cap, cur.setIfInBounds o u, rfl, h2, block_set h3 u, h4, h5, by rw [Array.size_setIfInBounds]; exact h6, ?_⟩
    rw [Array.toList_setIfInBounds, List.take_set, h7]
theorem set_far {w : World} {g q : Nat} (h : q ≠ g) (o : Nat) (u : Value) : (w.setCell ⟨g, o, none⟩ u).heap[q]? = w.heap[q]? := Below.heap_setCell w ⟨g, o, none⟩ u q h
/-- Three cells stored. -/
def set3 (W : World) (g o : Nat) (k : Kv) : World := ((W.setCell ⟨g, o, none⟩ (.string k.x.1)).setCell ⟨g, o + 1, none⟩ (.int .i64 k.x.2)).setCell ⟨g, o + 2, none⟩ (.slice k.a (lenF k.l) k.c)
theorem set3_far {W : World} {g q : Nat} (h : q ≠ g) (o : Nat) (k : Kv) : (set3 W g o k).heap[q]? = W.heap[q]? := (set_far h _ _).trans ((set_far h _ _).trans (set_far h _ _))
theorem set3_size (W : World) (g o : Nat) (k : Kv) : (set3 W g o k).heap.size = W.heap.size := by simp [set3]
theorem set3_below {n0 : Nat} {w W : World} {g : Nat} (hb : Below n0 w W) (h : n0 ≤ g) (o : Nat) (k : Kv) : Below n0 w (set3 W g o k) :=
  ((hb.setCell (p := ⟨g, o, none⟩) h _).setCell (p := ⟨g, o + 1, none⟩) h _).setCell (p := ⟨g, o + 2, none⟩) h _
theorem set3_fr (W : World) (g o : Nat) (k : Kv) : Fr (fun q => q = g) W (set3 W g o k) := ⟨set3_below (Below.refl 0 W) (Nat.zero_le _) o k, fun _ _ hq => set3_far hq o k⟩
theorem kv_set : ∀ (ks : List Kv) (m : Nat) (k : Kv), m < ks.length → kvCells (ks.set m k) = (((kvCells ks).set (m * 3) (.string k.x.1)).set (m * 3 + 1) (.int .i64 k.x.2)).set (m * 3 + 2) (.slice k.a (lenF k.l) k.c)
  | [], m, k, h => absurd h (by simp)
  | q :: r, 0, k, _ => rfl
  | q :: r, m + 1, k, h => by
    have ih := kv_set r m k (by simpa using h)
    have e : kvCells (q :: r) = .string q.x.1 :: .int .i64 q.x.2 :: .slice q.a (lenF q.l) q.c :: kvCells r := rfl
    have e2 : kvCells ((q :: r).set (m + 1) k) = .string q.x.1 :: .int .i64 q.x.2 :: .slice q.a (lenF q.l) q.c :: kvCells (r.set m k) := rfl
    rw [e, e2, ih, show (m + 1) * 3 = m * 3 + 1 + 1 + 1 by omega, show m * 3 + 1 + 1 + 1 + 1 = (m * 3 + 1) + 1 + 1 + 1 by omega, show m * 3 + 1 + 1 + 1 + 2 = (m * 3 + 2) + 1 + 1 + 1 by omega]
    simp only [List.set_cons_succ]
theorem owns_set3 {w : World} {base e size g n cap : Nat} {ks : List Kv} (h : w.ownsRow base e size (.slice (some ⟨g, 0, none⟩) n cap) n (kvCells ks)) {m : Nat} (hm : m < ks.length) (k : Kv) : (set3 w g (m * 3) k).ownsRow base e size (.slice (some ⟨g, 0, none⟩) n cap) n (kvCells (ks.set m k)) := by
  rw [kv_set ks m k hm]
  exact owns_set1 (owns_set1 (owns_set1 h _ _) _ _) _ _
theorem owns_cellk {w : World} {base e size g n cap : Nat} {ks : List Kv} (h : w.ownsRow base e size (.slice (some ⟨g, 0, none⟩) n cap) n (kvCells ks)) {m : Nat} (hm : m < ks.length) :
    w.cell? ⟨g, m * 3, none⟩ = some (.string ks[m].x.1) ∧ w.cell? ⟨g, m * 3 + 1, none⟩ = some (.int .i64 ks[m].x.2) ∧ w.cell? ⟨g, m * 3 + 2, none⟩ = some (.slice ks[m].a (lenF ks[m].l) ks[m].c) := by
  obtain ⟨h0, h1, h2⟩ := kv_at ks m hm
  exact ⟨owns_cell0 h h0, owns_cell0 h h1, owns_cell0 h h2⟩
theorem owns_froz {w : World} {base e size g n cap : Nat} {xs : List Value} (h : w.ownsRow base e size (.slice (some ⟨g, 0, none⟩) n cap) n xs) (i : Nat) : w.frozen? ⟨g, i, none⟩ = false := by
  obtain ⟨_, cur, hc⟩ := owns_cells h (g := g) rfl
  simp [World.frozen?, hc]
theorem own_slice {w : World} {base e size n : Nat} {v : Value} {xs : List Value} (h : w.ownsRow base e size v n xs) (hn : 0 < n) : ∃ g cap, v = .slice (some ⟨g, 0, none⟩) n cap ∧ base ≤ g ∧ g < w.heap.size ∧ n ≤ cap := by
  rcases h.2 with ⟨_, h0⟩ | ⟨g, cap, cur, h1, h2, h3, h4, _⟩
  · omega
  · exact ⟨g, cap, h1, h2, (Array.getElem?_eq_some_iff.1 h3).1, h4⟩
theorem own_any {w : World} {base e size n : Nat} {v : Value} {xs : List Value} (h : w.ownsRow base e size v n xs) : ∃ p cap, v = .slice p n cap ∧ n ≤ cap ∧ cap ≤ maxLen ∧ (p = none ∨ ∃ g, p = some ⟨g, 0, none⟩) := by
  rcases h.2 with ⟨h1, h0⟩ | ⟨g, cap, cur, h1, h2, h3, h4, h5, _⟩
  · exact ⟨none, 0, by rw [h1, h0], by omega, Nat.zero_le _, .inl rfl⟩
  · exact ⟨_, cap, h1, h4, h5, .inr ⟨g, rfl⟩⟩
end Go.Proofs.YtfnfbljijkjkjaaGreat
/- What fits and tableOf answer. -/
namespace Go.Proofs.YtfnfbljijkjkjaaGreat
open Go.RowKit Go.Deep

abbrev Bn := ByteArray × Tn
/-- A bind's cells. -/
structure BdAt (w : World) (b o : Nat) (x : Bn) (a : Option Addr) (c : Nat) : Prop where
  var : w.cell? ⟨b, o, none⟩ = some (.string x.1)
  name : w.cell? ⟨b, o + 1, none⟩ = some (.string x.2.1.1)
  sym : w.cell? ⟨b, o + 2, none⟩ = some (.int .i64 x.2.1.2)
  list : w.cell? ⟨b, o + 3, none⟩ = some (.slice a (lenF x.2.2) c)
  tm : TmAt w x.2.1 a c x.2.2
theorem bd_cell {w w' : World} (hb : Below w.heap.size w w') : ∀ p v, w.cell? p = some v → w'.cell? p = some v := fun p v h => by
  rw [hb.cell (World.block_lt_of_cell? w p h)]; exact h
theorem BdAt.below {w w' : World} {b o : Nat} {x : Bn} {a : Option Addr} {c : Nat} (h : BdAt w b o x a c) (hb : Below w.heap.size w w') : BdAt w' b o x a c :=
  ⟨bd_cell hb _ _ h.var, bd_cell hb _ _ h.name, bd_cell hb _ _ h.sym, bd_cell hb _ _ h.list, h.tm.below hb⟩
/-- The slice with this address and length holds these binds. -/
structure BindsAt (w : World) (p : Option Addr) (n : Nat) (l : List Bn) : Prop where
  len : n = l.length
  small : n ≤ maxLen
  cells : ∀ i (h : i < l.length), ∃ b off a c, p = some ⟨b, off, none⟩ ∧ BdAt w b (off + i * 4) l[i] a c
  fits : ∀ x ∈ l, x.1.size ≤ maxLen
theorem BindsAt.below {w w' : World} {p : Option Addr} {n : Nat} {l : List Bn} (h : BindsAt w p n l) (hb : Below w.heap.size w w') : BindsAt w' p n l :=
  ⟨h.len, h.small, fun i hi => let ⟨b, off, a, c, h1, h2⟩ := h.cells i hi; ⟨b, off, a, c, h1, h2.below hb⟩, h.fits⟩
theorem results_ct {fn : Func} {p u : Tmp} {P : Program} {tmps : Array Value} {w : World} {B : Nat} {x y z : Value} (h : fn.results = #[.cell p 26, .tmp u]) (hp : tmps.getD p undef = .pointer (some ⟨B, 0, none⟩)) (hl : (loadVar 26 ⟨B, 0, none⟩).run P w = .ok (.agg #[x, y, z]) w) :
    (results fn tmps).run P w = .ok (.tuple #[.agg #[x, y, z], tmps.getD u undef]) w := by
  have e : (results fn tmps).run P w = ((asAddr (tmps.getD p undef)).run P w).andThen fun q w₁ => ((loadVar 26 q).run P w₁).andThen fun y w₂ => .ok (.tuple #[y, tmps.getD u undef]) w₂ := by
    simp only [results, h]
    simp [Sem.run_bind, Result.andThen]
  rw [e, hp, show (asAddr (.pointer (some ⟨B, 0, none⟩))).run P w = .ok ⟨B, 0, none⟩ w from rfl]
  simp only [Result.andThen_ok, hl]
theorem load26 {W : World} {B : Nat} {x : ByteArray × Int} {a : Option Addr} {n c : Nat} (h : TBox W B x a n c) : (loadVar 26 ⟨B, 0, none⟩).run Tryz.prog W = .ok (.agg #[.string x.1, .int .i64 x.2, .slice a n c]) W := by
  have c0 := h.c0; have c1 := h.c1; have c2 := h.c2
  simp [go_sem, loadVar, c0, c1, c2]
end Go.Proofs.YtfnfbljijkjkjaaGreat
/- with of the solver: a term with one variable's term put in; what needs no copy is lent. -/
namespace Go.Proofs.YtfnfbljijkjkjaaGreat
open Go.RowKit Go.Shelf Go.Deep

/-- Apart from two boxes, too, and from a row under way. -/
def hid1 (n : Nat) (S : Nat → Obj → Bool) (v : Value) : Nat → Obj → Bool := fun i o => S i o && (!(v.ownBlock == some i) && (!(i == n) && !(i == n + 1)))
theorem hid1_iff {n : Nat} {S : Nat → Obj → Bool} {v : Value} {i : Nat} {o : Obj} : hid1 n S v i o = true ↔ S i o = true ∧ v.ownBlock ≠ some i ∧ i ≠ n ∧ i ≠ n + 1 := by
  unfold hid1
  simp only [Bool.and_eq_true, Bool.not_eq_true', beq_eq_false_iff_ne]
/-- with's boxes, and the row under way. -/
structure WSt (S : Nat → Obj → Bool) (w : World) (nm : ByteArray) (T : Tn) (x : ByteArray × Int) (a : Option Addr) (c : Nat) (l : Fo) (j : Nat) (av : Value) (W : World) : Prop where
  low : Below w.heap.size w W
  big : w.heap.size + 2 ≤ W.heap.size
  b1 : XBox W w.heap.size x (.slice a (lenF l) c)
  b2 : XBox W (w.heap.size + 1) (noS, 0) (.slice none 0 0)
  row : (av = .slice none 0 0 ∧ ((kidsL l).take j).any (fun y => h1N nm y.1 y.2) = false) ∨
    (((kidsL l).take j).any (fun y => h1N nm y.1 y.2) = true ∧ ∃ ks : List Kv, W.ownsRow (w.heap.size + 2) 26 3 av (lenF l) (kvCells ks) ∧ ks.map Kv.tn = ((kidsL l).take j).map (fun y => w1N nm T y.1 y.2) ++ (kidsL l).drop j ∧ ∀ k ∈ ks, TmO (hid1 w.heap.size S av) W k.x k.a k.c k.l)
theorem WSt.below {S : Nat → Obj → Bool} {w : World} {nm : ByteArray} {T : Tn} {x : ByteArray × Int} {a : Option Addr} {c : Nat} {l : Fo} {j : Nat} {av : Value} {W W' : World} (h : WSt S w nm T x a c l j av W) (hb : Below W.heap.size W W') : WSt S w nm T x a c l j av W' := by
  refine ⟨h.low.trans (hb.mono h.low.size), Nat.le_trans h.big hb.size, h.b1.below hb, h.b2.below hb, ?_⟩
  rcases h.row with h1 | ⟨h1, ks, h2, h3, h4⟩
  · exact .inl h1
  · exact .inr ⟨h1, ks, owns_below h2 hb, h3, fun k hk => tmO_below (h4 k hk) hb⟩
theorem take_any {nm : ByteArray} {l : List Tn} {j : Nat} {y : Tn} (h : l.drop j = y :: l.drop (j + 1)) : (l.take (j + 1)).any (fun y => h1N nm y.1 y.2) = ((l.take j).any (fun y => h1N nm y.1 y.2) || h1N nm y.1 y.2) := by
  have hj : j < l.length := by
    rcases Nat.lt_or_ge j l.length with h1 | h1
    · exact h1
    · rw [List.drop_eq_nil_of_le h1] at h; cases h
  have e : l[j] = y := by rw [List.drop_eq_getElem_cons hj] at h; exact (List.cons.inj h).1
  rw [List.take_succ_eq_append_getElem hj, List.any_append, e]
  simp
theorem takeD_one {l : List Tn} {j : Nat} {y : Tn} (h : l.drop j = y :: l.drop (j + 1)) : l.take (j + 1) = l.take j ++ [y] ∧ j < l.length := by
  have hj : j < l.length := by
    rcases Nat.lt_or_ge j l.length with h1 | h1
    · exact h1
    · rw [List.drop_eq_nil_of_le h1] at h; cases h
  have e : l[j] = y := by rw [List.drop_eq_getElem_cons hj] at h; exact (List.cons.inj h).1
  exact ⟨by rw [List.take_succ_eq_append_getElem hj, e], hj⟩
theorem kid_drop {w : World} {F : Fo} {b o k : Nat} {x : ByteArray × Int} {a : Option Addr} {c : Nat} {l : Fo} (h : Kid w F b o k x a c l) : (kidsL F).drop k = (x, l) :: (kidsL F).drop (k + 1) := by
  have h1 := kid_at h
  obtain ⟨hk, e⟩ := List.getElem?_eq_some_iff.1 h1
  rw [List.drop_eq_getElem_cons hk, e]
/-- An argument in which nothing is put. -/
theorem WSt.skip {S : Nat → Obj → Bool} {w : World} {nm : ByteArray} {T : Tn} {x : ByteArray × Int} {a : Option Addr} {c : Nat} {l : Fo} {j : Nat} {av : Value} {W : World} (h : WSt S w nm T x a c l j av W) {y : Tn} (hd : (kidsL l).drop j = y :: (kidsL l).drop (j + 1)) (hy : h1N nm y.1 y.2 = false) : WSt S w nm T x a c l (j + 1) av W := by
  refine ⟨h.low, h.big, h.b1, h.b2, ?_⟩
  rw [take_any hd, hy, Bool.or_false]
  rcases h.row with h1 | ⟨h1, ks, h2, h3, h4⟩
  · exact .inl h1
  · refine .inr ⟨h1, ks, h2, ?_, h4⟩
    rw [h3, (takeD_one hd).1, hd, List.map_append, List.append_assoc]
    congr 1
    show y :: _ = w1N nm T y.1 y.2 :: _
    rw [w1N_not hy]
    rfl
/-- An argument that is stored over. -/
theorem WSt.put {S : Nat → Obj → Bool} {w : World} {nm : ByteArray} {T : Tn} {x : ByteArray × Int} {a : Option Addr} {c : Nat} {l : Fo} {j : Nat} {W : World} {g cap : Nat} {ks : List Kv} (h : Below w.heap.size w W) (hbig : w.heap.size + 2 ≤ W.heap.size) (b1 : XBox W w.heap.size x (.slice a (lenF l) c)) (b2 : XBox W (w.heap.size + 1) (noS, 0) (.slice none 0 0))
    (h2 : W.ownsRow (w.heap.size + 2) 26 3 (.slice (some ⟨g, 0, none⟩) (lenF l) cap) (lenF l) (kvCells ks)) (h3 : ks.map Kv.tn = ((kidsL l).take j).map (fun y => w1N nm T y.1 y.2) ++ (kidsL l).drop j) (h4 : ∀ k ∈ ks, TmO (hid1 w.heap.size S (.slice (some ⟨g, 0, none⟩) (lenF l) cap)) W k.x k.a k.c k.l)
    {y : Tn} (hd : (kidsL l).drop j = y :: (kidsL l).drop (j + 1)) (hy : h1N nm y.1 y.2 = true) (k : Kv) (hk : k.tn = w1N nm T y.1 y.2) (ht : TmO (hid1 w.heap.size S (.slice (some ⟨g, 0, none⟩) (lenF l) cap)) W k.x k.a k.c k.l) : WSt S w nm T x a c l (j + 1) (.slice (some ⟨g, 0, none⟩) (lenF l) cap) (set3 W g (j * 3) k) := by
  have hg := (owns_cells h2 (g := g) rfl).1
  have hl := congrArg List.length h3
  rw [List.length_map, List.length_append, List.length_map, List.length_take, List.length_drop] at hl
  have hj := (takeD_one hd).2
  have hjk : j < ks.length := by omega
  have hkeep : ∀ {z : ByteArray × Int} {za : Option Addr} {zc : Nat} {zl : Fo}, TmO (hid1 w.heap.size S (.slice (some ⟨g, 0, none⟩) (lenF l) cap)) W z za zc zl → TmO (hid1 w.heap.size S (.slice (some ⟨g, 0, none⟩) (lenF l) cap)) (set3 W g (j * 3) k) z za zc zl := fun hz =>
    tmO_move hz fun b o ho hs => ⟨(set3_far (fun e => by subst e; exact (hid1_iff.1 hs).2.1 rfl) _ _).trans ho, hs⟩
  refine ⟨set3_below h (by omega) _ _, by rw [set3_size]; exact hbig, (set3_far (by omega) _ _).trans b1, (set3_far (by omega) _ _).trans b2, .inr ⟨by rw [take_any hd, hy, Bool.or_true], ks.set j k, owns_set3 h2 hjk k, ?_, fun q hq => ?_⟩⟩
  · have hlen : (((kidsL l).take j).map (fun y => w1N nm T y.1 y.2)).length = j := by rw [List.length_map, List.length_take]; omega
    rw [List.map_set, h3, (takeD_one hd).1, hd, hk]
    rw [List.set_append_right _ _ (by omega), hlen, Nat.sub_self, List.set_cons_zero, List.map_append, List.append_assoc]
    rfl
  · rcases List.mem_or_eq_of_mem_set hq with h5 | rfl
    · exact hkeep (h4 q h5)
    · exact hkeep ht
end Go.Proofs.YtfnfbljijkjkjaaGreat
