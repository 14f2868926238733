import Derived.Test.YtfnfbljijkjkjaaKSoH
/- What fits and tableOf answer. -/
namespace Go.Proofs.Ytfnfbljijkjkjaa
open Go.RowKit Go.Deep

abbrev Bn := ByteArray × Tn
/-- A bind's cells. -/
structure BdAt (w : World) (b o : Nat) (x : Bn) (a : Option Addr) (c : Nat) : Prop where
  var : w.cell? ⟨b, o, none⟩ = some (.string x.1)
  name : w.cell? ⟨b, o + 1, none⟩ = some (.string x.2.1.1)
  sym : w.cell? ⟨b, o + 2, none⟩ = some (.int .i64 x.2.1.2)
  list : w.cell? ⟨b, o + 3, none⟩ = some (.slice a (lenF x.2.2) c)
  tm : TmAt w x.2.1 a c x.2.2
theorem bd_cell {w w' : World} (hb : Below w.heap.size w w') : ∀ p v, w.cell? p = some v → w'.cell? p = some v := fun p v h => by
  rw [hb.cell (World.block_lt_of_cell? w p h)]; exact h
theorem BdAt.below {w w' : World} {b o : Nat} {x : Bn} {a : Option Addr} {c : Nat} (h : BdAt w b o x a c) (hb : Below w.heap.size w w') : BdAt w' b o x a c :=
  ⟨bd_cell hb _ _ h.var, bd_cell hb _ _ h.name, bd_cell hb _ _ h.sym, bd_cell hb _ _ h.list, h.tm.below hb⟩
/-- The slice with this address and length holds these binds. -/
structure BindsAt (w : World) (p : Option Addr) (n : Nat) (l : List Bn) : Prop where
  len : n = l.length
  small : n ≤ maxLen
  cells : ∀ i (h : i < l.length), ∃ b off a c, p = some ⟨b, off, none⟩ ∧ BdAt w b (off + i * 4) l[i] a c
  fits : ∀ x ∈ l, x.1.size ≤ maxLen
theorem BindsAt.below {w w' : World} {p : Option Addr} {n : Nat} {l : List Bn} (h : BindsAt w p n l) (hb : Below w.heap.size w w') : BindsAt w' p n l :=
  ⟨h.len, h.small, fun i hi => let ⟨b, off, a, c, h1, h2⟩ := h.cells i hi; ⟨b, off, a, c, h1, h2.below hb⟩, h.fits⟩
theorem results_ct {fn : Func} {p u : Tmp} {P : Program} {tmps : Array Value} {w : World} {B : Nat} {x y z : Value} (h : fn.results = #[.cell p 26, .tmp u]) (hp : tmps.getD p undef = .pointer (some ⟨B, 0, none⟩)) (hl : (loadVar 26 ⟨B, 0, none⟩).run P w = .ok (.agg #[x, y, z]) w) :
    (results fn tmps).run P w = .ok (.tuple #[.agg #[x, y, z], tmps.getD u undef]) w := by
  have e : (results fn tmps).run P w = ((asAddr (tmps.getD p undef)).run P w).andThen fun q w₁ => ((loadVar 26 q).run P w₁).andThen fun y w₂ => .ok (.tuple #[y, tmps.getD u undef]) w₂ := by
    simp only [results, h]
    simp [Sem.run_bind, Result.andThen]
  rw [e, hp, show (asAddr (.pointer (some ⟨B, 0, none⟩))).run P w = .ok ⟨B, 0, none⟩ w from rfl]
  simp only [Result.andThen_ok, hl]
theorem load26 {W : World} {B : Nat} {x : ByteArray × Int} {a : Option Addr} {n c : Nat} (h : TBox W B x a n c) : (loadVar 26 ⟨B, 0, none⟩).run Try.prog W = .ok (.agg #[.string x.1, .int .i64 x.2, .slice a n c]) W := by
  have c0 := h.c0; have c1 := h.c1; have c2 := h.c2
  simp [go_sem, loadVar, c0, c1, c2]
end Go.Proofs.Ytfnfbljijkjkjaa
/- with of the solver: a term with one variable's term put in; what needs no copy is lent. -/
namespace Go.Proofs.Ytfnfbljijkjkjaa
open Go.RowKit Go.Shelf Go.Deep

/-- Apart from two boxes, too, and from a row under way. -/
def hid1 (n : Nat) (S : Nat → Obj → Bool) (v : Value) : Nat → Obj → Bool := fun i o => S i o && (!(v.ownBlock == some i) && (!(i == n) && !(i == n + 1)))
theorem hid1_iff {n : Nat} {S : Nat → Obj → Bool} {v : Value} {i : Nat} {o : Obj} : hid1 n S v i o = true ↔ S i o = true ∧ v.ownBlock ≠ some i ∧ i ≠ n ∧ i ≠ n + 1 := by
  unfold hid1
  simp only [Bool.and_eq_true, Bool.not_eq_true', beq_eq_false_iff_ne]
/-- with's boxes, and the row under way. -/
structure WSt (S : Nat → Obj → Bool) (w : World) (nm : ByteArray) (T : Tn) (x : ByteArray × Int) (a : Option Addr) (c : Nat) (l : Fo) (j : Nat) (av : Value) (W : World) : Prop where
  low : Below w.heap.size w W
  big : w.heap.size + 2 ≤ W.heap.size
  b1 : XBox W w.heap.size x (.slice a (lenF l) c)
  b2 : XBox W (w.heap.size + 1) (noS, 0) (.slice none 0 0)
  row : (av = .slice none 0 0 ∧ ((kidsL l).take j).any (fun y => h1N nm y.1 y.2) = false) ∨
    (((kidsL l).take j).any (fun y => h1N nm y.1 y.2) = true ∧ ∃ ks : List Kv, W.ownsRow (w.heap.size + 2) 26 3 av (lenF l) (kvCells ks) ∧ ks.map Kv.tn = ((kidsL l).take j).map (fun y => w1N nm T y.1 y.2) ++ (kidsL l).drop j ∧ ∀ k ∈ ks, TmO (hid1 w.heap.size S av) W k.x k.a k.c k.l)
theorem WSt.below {S : Nat → Obj → Bool} {w : World} {nm : ByteArray} {T : Tn} {x : ByteArray × Int} {a : Option Addr} {c : Nat} {l : Fo} {j : Nat} {av : Value} {W W' : World} (h : WSt S w nm T x a c l j av W) (hb : Below W.heap.size W W') : WSt S w nm T x a c l j av W' := by
  refine ⟨h.low.trans (hb.mono h.low.size), Nat.le_trans h.big hb.size, h.b1.below hb, h.b2.below hb, ?_⟩
  rcases h.row with h1 | ⟨h1, ks, h2, h3, h4⟩
  · exact .inl h1
  · exact .inr ⟨h1, ks, owns_below h2 hb, h3, fun k hk => tmO_below (h4 k hk) hb⟩
theorem take_any {nm : ByteArray} {l : List Tn} {j : Nat} {y : Tn} (h : l.drop j = y :: l.drop (j + 1)) : (l.take (j + 1)).any (fun y => h1N nm y.1 y.2) = ((l.take j).any (fun y => h1N nm y.1 y.2) || h1N nm y.1 y.2) := by
  have hj : j < l.length := by
    rcases Nat.lt_or_ge j l.length with h1 | h1
    · exact h1
    · rw [List.drop_eq_nil_of_le h1] at h; cases h
  have e : l[j] = y := by rw [List.drop_eq_getElem_cons hj] at h; exact (List.cons.inj h).1
  rw [List.take_succ_eq_append_getElem hj, List.any_append, e]
  simp
theorem takeD_one {l : List Tn} {j : Nat} {y : Tn} (h : l.drop j = y :: l.drop (j + 1)) : l.take (j + 1) = l.take j ++ [y] ∧ j < l.length := by
  have hj : j < l.length := by
    rcases Nat.lt_or_ge j l.length with h1 | h1
    · exact h1
    · rw [List.drop_eq_nil_of_le h1] at h; cases h
  have e : l[j] = y := by rw [List.drop_eq_getElem_cons hj] at h; exact (List.cons.inj h).1
  exact ⟨by rw [List.take_succ_eq_append_getElem hj, e], hj⟩
theorem kid_drop {w : World} {F : Fo} {b o k : Nat} {x : ByteArray × Int} {a : Option Addr} {c : Nat} {l : Fo} (h : Kid w F b o k x a c l) : (kidsL F).drop k = (x, l) :: (kidsL F).drop (k + 1) := by
  have h1 := kid_at h
  obtain ⟨hk, e⟩ := List.getElem?_eq_some_iff.1 h1
  rw [List.drop_eq_getElem_cons hk, e]
/-- An argument in which nothing is put. -/
theorem WSt.skip {S : Nat → Obj → Bool} {w : World} {nm : ByteArray} {T : Tn} {x : ByteArray × Int} {a : Option Addr} {c : Nat} {l : Fo} {j : Nat} {av : Value} {W : World} (h : WSt S w nm T x a c l j av W) {y : Tn} (hd : (kidsL l).drop j = y :: (kidsL l).drop (j + 1)) (hy : h1N nm y.1 y.2 = false) : WSt S w nm T x a c l (j + 1) av W := by
  refine ⟨h.low, h.big, h.b1, h.b2, ?_⟩
  rw [take_any hd, hy, Bool.or_false]
  rcases h.row with h1 | ⟨h1, ks, h2, h3, h4⟩
  · exact .inl h1
  · refine .inr ⟨h1, ks, h2, ?_, h4⟩
    rw [h3, (takeD_one hd).1, hd, List.map_append, List.append_assoc]
    congr 1
    show y :: _ = w1N nm T y.1 y.2 :: _
    rw [w1N_not hy]
    rfl
/-- An argument that is stored over. -/
theorem WSt.put {S : Nat → Obj → Bool} {w : World} {nm : ByteArray} {T : Tn} {x : ByteArray × Int} {a : Option Addr} {c : Nat} {l : Fo} {j : Nat} {W : World} {g cap : Nat} {ks : List Kv} (h : Below w.heap.size w W) (hbig : w.heap.size + 2 ≤ W.heap.size) (b1 : XBox W w.heap.size x (.slice a (lenF l) c)) (b2 : XBox W (w.heap.size + 1) (noS, 0) (.slice none 0 0))
    (h2 : W.ownsRow (w.heap.size + 2) 26 3 (.slice (some ⟨g, 0, none⟩) (lenF l) cap) (lenF l) (kvCells ks)) (h3 : ks.map Kv.tn = ((kidsL l).take j).map (fun y => w1N nm T y.1 y.2) ++ (kidsL l).drop j) (h4 : ∀ k ∈ ks, TmO (hid1 w.heap.size S (.slice (some ⟨g, 0, none⟩) (lenF l) cap)) W k.x k.a k.c k.l)
    {y : Tn} (hd : (kidsL l).drop j = y :: (kidsL l).drop (j + 1)) (hy : h1N nm y.1 y.2 = true) (k : Kv) (hk : k.tn = w1N nm T y.1 y.2) (ht : TmO (hid1 w.heap.size S (.slice (some ⟨g, 0, none⟩) (lenF l) cap)) W k.x k.a k.c k.l) : WSt S w nm T x a c l (j + 1) (.slice (some ⟨g, 0, none⟩) (lenF l) cap) (set3 W g (j * 3) k) := by
  have hg := (owns_cells h2 (g := g) rfl).1
  have hl := congrArg List.length h3
  rw [List.length_map, List.length_append, List.length_map, List.length_take, List.length_drop] at hl
  have hj := (takeD_one hd).2
  have hjk : j < ks.length := by omega
  have hkeep : ∀ {z : ByteArray × Int} {za : Option Addr} {zc : Nat} {zl : Fo}, TmO (hid1 w.heap.size S (.slice (some ⟨g, 0, none⟩) (lenF l) cap)) W z za zc zl → TmO (hid1 w.heap.size S (.slice (some ⟨g, 0, none⟩) (lenF l) cap)) (set3 W g (j * 3) k) z za zc zl := fun hz =>
    tmO_move hz fun b o ho hs => ⟨(set3_far (fun e => by subst e; exact (hid1_iff.1 hs).2.1 rfl) _ _).trans ho, hs⟩
  refine ⟨set3_below h (by omega) _ _, by rw [set3_size]; exact hbig, (set3_far (by omega) _ _).trans b1, (set3_far (by omega) _ _).trans b2, .inr ⟨by rw [take_any hd, hy, Bool.or_true], ks.set j k, owns_set3 h2 hjk k, ?_, fun q hq => ?_⟩⟩
  · have hlen : (((kidsL l).take j).map (fun y => w1N nm T y.1 y.2)).length = j := by rw [List.length_map, List.length_take]; omega
    rw [List.map_set, h3, (takeD_one hd).1, hd, hk]
    rw [List.set_append_right _ _ (by omega), hlen, Nat.sub_self, List.set_cons_zero, List.map_append, List.append_assoc]
    rfl
  · rcases List.mem_or_eq_of_mem_set hq with h5 | rfl
    · exact hkeep (h4 q h5)
    · exact hkeep ht
end Go.Proofs.Ytfnfbljijkjkjaa
/- with of the solver, whole. -/
namespace Go.Proofs.Ytfnfbljijkjkjaa
open Go.RowKit Go.Shelf Go.Deep

def WithEnd (S : Nat → Obj → Bool) (nm : ByteArray) (T : Tn) (x : ByteArray × Int) (l : Fo) (a : Option Addr) (c : Nat) (w : World) (e : Ending) (w' : World) : Prop :=
  ∃ a' c', e = .returned (.tuple #[.agg #[.string (w1N nm T x l).1.1, .int .i64 (w1N nm T x l).1.2, .slice a' (lenF (w1N nm T x l).2) c'], .bool (h1N nm x l)]) ∧ TmO S w' (w1N nm T x l).1 a' c' (w1N nm T x l).2 ∧ Below w.heap.size w w' ∧ (h1N nm x l = false → a' = a ∧ c' = c)
def With1Ok (nm : ByteArray) (T : Tn) (ta : Option Addr) (tc : Nat) (N : Int) (k : Nat) : Prop := ∀ (S : Nat → Obj → Bool) (x : ByteArray × Int) (l : Fo) (a : Option Addr) (c Q : Nat) (w : World), nodesF l ≤ k → nodesF l ≤ 1048576 → (∀ b o, w.heap.size ≤ b → is26 o = true → S b o = true) → TmO S w x a c l → TmO S w T.1 ta tc T.2 → Box w Q 92 (ptC nm T ta tc N) →
  Calls Try.prog 98 #[.pointer (some ⟨Q, 0, none⟩), .agg #[.string x.1, .int .i64 x.2, .slice a (lenF l) c]] w (WithEnd S nm T x l a c w)
theorem row26 {w : World} {base size n : Nat} {v : Value} {xs : List Value} (h : w.ownsRow base 26 size v n xs) {g : Nat} (hg : v.ownBlock = some g) : ∃ o, w.heap[g]? = some o ∧ is26 o = true := by
  obtain ⟨_, cur, hc⟩ := owns_cells h hg
  exact ⟨_, hc, rfl⟩
set_option maxRecDepth 100000 in
set_option maxHeartbeats 8000000 in
theorem with1_all (nm : ByteArray) (T : Tn) (ta : Option Addr) (tc : Nat) (N : Int) : ∀ k, With1Ok nm T ta tc N k := by
  intro k
  induction k using Nat.strongRecOn with
  | _ k ih =>
    intro S x l a c Q w hk hk2 hSS hT hTT hQ
    have HT := hid hT; have HTT := hid hTT; have HQ := hid hQ; have HSS := hid hSS
    have IH : Hid (∀ j, j < k → With1Ok nm T ta tc N j) := ih
    obtain ⟨W0, hW0⟩ : ∃ W0, (w.alloc (.cells #[.string x.1, .int .i64 x.2, .slice a (lenF l) c] 26)).alloc (.cells #[.string ⟨#[]⟩, .int .i64 0, .slice none 0 0] 26) = W0 := ⟨_, rfl⟩
    have hb0 : Below w.heap.size w W0 := by rw [← hW0]; exact ((Below.refl _ w).alloc (Nat.le_refl _) _).alloc (by simp) _
    have b1 : XBox W0 w.heap.size x (.slice a (lenF l) c) := by rw [← hW0]; exact (Below.heap_alloc _ _ _ (by simp)).trans (World.alloc_heap_new w _)
    have b2 : XBox W0 (w.heap.size + 1) (noS, 0) (.slice none 0 0) := by
      have := World.alloc_heap_new (w.alloc (.cells #[.string x.1, .int .i64 x.2, .slice a (lenF l) c] 26)) (.cells #[.string ⟨#[]⟩, .int .i64 0, .slice none 0 0] 26)
      rw [World.size_alloc] at this
      rw [← hW0]; exact this
    have hsz : W0.heap.size = w.heap.size + 2 := by rw [← hW0]; simp
    have q0 : W0.cell? ⟨Q, 0, none⟩ = some (.string nm) := (hQ.below hb0).c 0
    have t0 := b1.c0
    have HB0 := hid hb0; have HB1 := hid b1; have HB2 := hid b2; have HZ := hid hsz
    have hn0 := len_nodes l
    have hln : lenF l ≤ 1048576 := by omega
    clear hT ih hQ hTT hSS hb0 b1 b2 hsz
    go_enter Try.func98, Try.ntmps98
    go_upto_region 1 with fail
    clear hW0
    have hls := later_some W0
    have k0 := later_cell t0
    have k1 := later_cell q0
    refine wp_region_later (by kernel_rfl) (by kernel_rfl) ?_
    repeat (go_big_quiet_step (fail))
    refine wpQuiet_nil ?_
    intro _ hw'
    obtain ⟨v2, hw''⟩ := hw'
    subst hw''
    have HL := hid (HB0.out.trans (v2.below.mono HB0.out.size))
    have HX1 := hid (HB1.out.below v2.below); have HX2 := hid (HB2.out.below v2.below)
    have HZ2 : Hid (w.heap.size + 2 ≤ v2.now.heap.size) := hid (by have := v2.below.size; have := HZ.out; omega)
    have HQ2 := hid (HQ.out.below HL.out)
    clear k0 k1 hls t0 q0 HB0 HB1 HB2 HZ
    generalize v2.now = V2 at HL HX1 HX2 HZ2 HQ2 ⊢
    clear v2
    cases heq : (x.1.toList == nm.toList)
    case true =>
      have e1 : w1N nm T x l = T := by unfold w1N eqN; rw [heq, if_pos rfl]
      have e2 : h1N nm x l = true := by unfold h1N eqN; rw [heq]; rfl
      have HE1 := hid e1; have HE2 := hid e2
      have q1 : V2.cell? ⟨Q, 1, none⟩ = some (.string T.1.1) := HQ2.out.c 1
      have q2 : V2.cell? ⟨Q, 2, none⟩ = some (.int .i64 T.1.2) := HQ2.out.c 2
      have q3 : V2.cell? ⟨Q, 3, none⟩ = some (.slice ta (lenF T.2) tc) := HQ2.out.c 3
      have g0 := HX2.out.f (k := 0); have g1 := HX2.out.f (k := 1); have g2 := HX2.out.f (k := 2)
      have y0 := HX2.out.c0; have y1 := HX2.out.c1; have y2 := HX2.out.c2
      clear e1 e2
      go_wp2_with fail
      refine bodyPost_ret (results_ct rfl rfl (load26 (HX2.out.all (x := T.1) _))) rfl ?_
      have hb := sets_below (B := w.heap.size + 1) HL.out (by omega) (.string T.1.1) (.int .i64 T.1.2) (.slice ta (lenF T.2) tc)
      unfold WithEnd
      rw [HE1.out, HE2.out]
      exact ⟨ta, tc, rfl, tmO_below HTT.out hb, hb, fun h => by cases h⟩
    case false =>
      have e1 : w1N nm T x l = (x, w1F nm T l) := by unfold w1N eqN; rw [heq, if_neg (by simp)]
      have e2 : h1N nm x l = (kidsL l).any (fun y => h1N nm y.1 y.2) := by unfold h1N eqN; rw [heq, h1F_kids]; rfl
      have HE1 := hid e1; have HE2 := hid e2
      have z2 := HX1.out.c2
      have hst : WSt S w nm T x a c l 0 (.slice none 0 0) V2 := ⟨HL.out, HZ2.out, HX1.out, HX2.out, .inl ⟨rfl, rfl⟩⟩
      have HST := hid hst
      clear e1 e2 hst HX1 HX2 HL HZ2 HQ2
      go_wp2_with fail
      go_loopw [6, 27] (fun av iv wr => ∃ (j : Nat), j ≤ lenF l ∧ iv = .int .i64 j ∧ WSt S w nm T x a c l j av wr) (fun _ iv _ => lenF l - (intOf iv).toNat)
      case atStart => exact ⟨0, Nat.zero_le _, rfl, HST.out⟩
      case round =>
        obtain ⟨j, hj, rfl, hst⟩ := hrel
        have HST2 := hid hst
        by_cases hlt : j < lenF l
        · obtain ⟨b1, o1, rfl, hk1⟩ := HT.out.args.get (by omega)
          obtain ⟨z, a1, c1, l1, kd⟩ := hk1.kid (k := j) hlt
          have p0 := below_cell hst.low _ _ (off_cell kd.name).choose_spec.2.2
          have p1 := below_cell hst.low _ _ (off_cell kd.sym).choose_spec.2.2
          have p2 := below_cell hst.low _ _ (off_cell kd.list).choose_spec.2.2
          have hd := kid_drop kd
          have hal := alloc_below0 wr (.cells #[.string z.1, .int .i64 z.2, .slice a1 (lenF l1) c1] 26)
          have hgl : ∀ g, u6.ownBlock = some g → w.heap.size + 2 ≤ g ∧ g < wr.heap.size := fun g hg => by
            rcases hst.row with ⟨rfl, _⟩ | ⟨_, ks, h2, _⟩
            · cases hg
            · exact h2.lt g hg
          have hmv : ∀ {W : World} {q : ByteArray × Int} {qa : Option Addr} {qc : Nat} {ql : Fo}, TmO S w q qa qc ql → Below w.heap.size w W → TmO (hid1 w.heap.size S u6) W q qa qc ql := fun hq hW =>
            tmO_move hq fun b o ho hs => by
              have hbl := (Array.getElem?_eq_some_iff.1 ho).1
              refine ⟨(hW.block b hbl).trans ho, ?_⟩
              exact hid1_iff.2 ⟨hs, fun e => by have := (hgl b e).1; omega, by omega, by omega⟩
          have hlow := hst.low.trans (hal.mono hst.low.size)
          have hC := IH.out (nodesF l1) (by have := kd.less; omega) (hid1 w.heap.size S u6) z l1 a1 c1 Q (wr.alloc (.cells #[.string z.1, .int .i64 z.2, .slice a1 (lenF l1) c1] 26)) (Nat.le_refl _) (by have := kd.less; omega) (fun b o hb ho => by
              have h1 := hlow.size
              have h2 := hal.size
              have h3 := hst.big
              exact hid1_iff.2 ⟨HSS.out b o (by omega) ho, fun e => by have := (hgl b e).2; omega, by omega, by omega⟩) (hmv kd.at_ hlow) (hmv HTT.out hlow) (HQ.out.below hlow)
          unfold WithEnd at hC
          have HMV : Hid (∀ {W : World} {q : ByteArray × Int} {qa : Option Addr} {qc : Nat} {ql : Fo}, TmO S w q qa qc ql → Below w.heap.size w W → TmO (hid1 w.heap.size S u6) W q qa qc ql) := hid hmv
          have HGL := hid hgl; have HAL := hid hal; have HD := hid hd; have HK1 := hid hk1
          cases hy : h1N nm z l1
          case false =>
            rw [hy] at hC
            have HC := hid hC
            have HY := hid hy
            clear hC hmv hgl hal hd hk1 kd hlow hst hy
            go_wp2_with fail
            refine HC.out.mono ?_
            rintro e w3 ⟨a', c', rfl, _, hb3, h7⟩
            obtain ⟨rfl, rfl⟩ := h7 trivial
            have hb4 := HAL.out.trans ((hb3.trans ((alloc_below0 w3 (.cells #[.string (w1N nm T z l1).1.1, .int .i64 (w1N nm T z l1).1.2, .slice a' (lenF (w1N nm T z l1).2) c'] 26)).mono hb3.size)).mono HAL.out.size)
            have HN := hid ((HST2.out.below hb4).skip HD.out HY.out)
            clear hb3 hb4 p0 p1 p2
            go_wp2_with fail
            go_roundw
            case rel => exact ⟨j + 1, by omega, by go_num, HN.out⟩
            case measure => simp [intOf]; omega
          case true =>
            rw [hy] at hC
            have HY := hid hy
            have HC := hid hC
            clear hC hmv hgl hal hd kd hlow hy hk1
            have z2' : ∀ W, Below wr.heap.size wr W → W.cell? ⟨w.heap.size, 2, none⟩ = some (.slice (some ⟨b1, o1, none⟩) (lenF l) c) := fun W hW => (hst.b1.below hW).c2
            have HZ2 := hid z2'
            clear z2' hst
            rcases HST2.out.row with ⟨rfl, hnone⟩ | ⟨hany, ks, hrow, hmap, htm⟩
            · obtain ⟨ks, e1, e2, e3⟩ := kids_kvs HK1.out
              have hkl : ks.length = lenF l := by rw [← kids_len, ← e1, List.length_map]
              have HKL := hid hkl
              have HCL := hid fun (W : World) (hW : Below w.heap.size w W) => clone_terms b1 o1 c ks W (fun i u hu => below_cell hW _ _ (off_cell (e2 i u hu)).choose_spec.2.2) (by omega)
              rw [hkl] at HCL
              have HE1' := hid e1; have HE3 := hid e3
              clear e1 e2 e3 hkl
              go_wp2_with fail
              refine HC.out.mono ?_
              rintro e w3 ⟨a', c', rfl, ht3, hb3, _⟩
              have HT3 := hid ht3
              generalize hyy : w1N nm T z l1 = yy at ht3 HT3 ⊢
              obtain ⟨⟨yn, ys⟩, yl⟩ := yy
              have HYY := hid hyy
              have hb4 := HAL.out.trans ((hb3.trans ((alloc_below0 w3 (.cells #[.string yn, .int .i64 ys, .slice a' (lenF yl) c'] 26)).mono hb3.size)).mono HAL.out.size)
              have HB4 := hid hb4
              have HYB := hid (Box.new w3 26 #[.string yn, .int .i64 ys, .slice a' (lenF yl) c'])
              have z2 := HZ2.out _ hb4
              have heq4 : (binOp .eql 24 (.slice none 0 0) (.slice none 0 0)).run Try.prog (w3.alloc (.cells #[.string yn, .int .i64 ys, .slice a' (lenF yl) c'] 26)) = .ok (.bool true) (w3.alloc (.cells #[.string yn, .int .i64 ys, .slice a' (lenF yl) c'] 26)) := rfl
              have HT4 := hid (tmO_below ht3 (alloc_below0 w3 (.cells #[.string yn, .int .i64 ys, .slice a' (lenF yl) c'] 26)))
              clear hb3 hb4 p0 p1 p2 ht3 hyy
              dsimp only at *
              go_wp2_with (go_at_call 112; refine (HCL.out _ (HST2.out.low.trans (HB4.out.mono HST2.out.low.size))).mono ?_; rintro e w5 ⟨v5, rfl, hr5, hb5⟩; have HR5 := hid hr5; have HB5 := hid hb5; obtain ⟨g, cap, rfl, hg1, hg2, hg3⟩ := own_slice hr5 (by omega); have hjk : j < ks.length := (by have := HKL.out; omega); have Y5 := HYB.out.below hb5; have y0 := Y5.c 0; have y1 := Y5.c 1; have y2 := Y5.c 2; obtain ⟨r0, r1, r2⟩ := owns_cellk hr5 hjk; have f0 := owns_froz hr5 (j * 3); have f1 := owns_froz hr5 (j * 3 + 1); have f2 := owns_froz hr5 (j * 3 + 2); have HG1 := hid hg1; clear hr5 hb5 Y5 heq4)
              have hq : WSt S w nm T x (some ⟨b1, o1, none⟩) c l (j + 1) (.slice (some ⟨g, 0, none⟩) (lenF l) cap) (set3 w5 g (j * 3) ⟨(yn, ys), yl, a', c'⟩) := by
                have s5 := (HST2.out.below HB4.out).below HB5.out
                have hbg : ∀ {q : ByteArray × Int} {qa : Option Addr} {qc : Nat} {ql : Fo}, TmO (hid1 w.heap.size S (.slice none 0 0)) (w3.alloc (.cells #[.string yn, .int .i64 ys, .slice a' (lenF yl) c'] 26)) q qa qc ql → TmO (hid1 w.heap.size S (.slice (some ⟨g, 0, none⟩) (lenF l) cap)) w5 q qa qc ql := fun hq =>
                  tmO_move hq fun b o ho hs => by
                    have hbl := (Array.getElem?_eq_some_iff.1 ho).1
                    refine ⟨(HB5.out.block b hbl).trans ho, ?_⟩
                    obtain ⟨s1, _, s3, s4⟩ := hid1_iff.1 hs
                    exact hid1_iff.2 ⟨s1, fun e => by have := HG1.out; have e2 : some g = some b := e; have := Option.some.inj e2; omega, s3, s4⟩
                have hsz4 := (HST2.out.below HB4.out).big
                refine WSt.put s5.low s5.big s5.b1 s5.b2 (owns_base HR5.out (by omega)) ?_ (fun k hk => ?_) HD.out HY.out ⟨(yn, ys), yl, a', c'⟩ HYY.out.symm ?_
                · rw [HE1'.out]
                  have : ((kidsL l).take j).map (fun y => w1N nm T y.1 y.2) = (kidsL l).take j := by
                    conv => rhs; rw [← List.map_id ((kidsL l).take j)]
                    refine List.map_congr_left fun y hy => ?_
                    have hf := List.any_eq_false.1 hnone y hy
                    exact w1N_not (by simpa using hf)
                  rw [this, List.take_append_drop]
                · exact hbg (HMV.out (HE3.out k hk) (HST2.out.low.trans (HB4.out.mono HST2.out.low.size)))
                · exact hbg HT4.out
              have HQQ := hid hq
              clear hq y0 y1 y2 r0 r1 r2 f0 f1 f2
              go_roundw
              case rel => exact ⟨j + 1, by omega, by go_num, HQQ.out⟩
              case measure => simp [intOf]; omega
            · have hkl : ks.length = lenF l := by
                have := congrArg List.length hmap
                rw [List.length_map, List.length_append, List.length_map, List.length_take, List.length_drop, kids_len] at this
                omega
              obtain ⟨g, cap, rfl, hg1, hg2, hg3⟩ := own_slice hrow (by omega)
              have HROW := hid hrow; have HMAP := hid hmap; have HTM := hid htm; have HKL := hid hkl
              clear hrow hmap htm hkl
              go_wp2_with fail
              refine HC.out.mono ?_
              rintro e w3 ⟨a', c', rfl, ht3, hb3, _⟩
              generalize hyy : w1N nm T z l1 = yy at ht3 ⊢
              obtain ⟨⟨yn, ys⟩, yl⟩ := yy
              have HYY := hid hyy
              have hb4 := HAL.out.trans ((hb3.trans ((alloc_below0 w3 (.cells #[.string yn, .int .i64 ys, .slice a' (lenF yl) c'] 26)).mono hb3.size)).mono HAL.out.size)
              have HB4 := hid hb4
              have HYB := hid (Box.new w3 26 #[.string yn, .int .i64 ys, .slice a' (lenF yl) c'])
              have heq4 : (binOp .eql 24 (.slice (some ⟨g, 0, none⟩) (lenF l) cap) (.slice none 0 0)).run Try.prog (w3.alloc (.cells #[.string yn, .int .i64 ys, .slice a' (lenF yl) c'] 26)) = .ok (.bool false) (w3.alloc (.cells #[.string yn, .int .i64 ys, .slice a' (lenF yl) c'] 26)) := rfl
              have HT4 := hid (tmO_below ht3 (alloc_below0 w3 (.cells #[.string yn, .int .i64 ys, .slice a' (lenF yl) c'] 26)))
              have hr4 := owns_below HROW.out hb4
              have HR4 := hid hr4
              have hjk : j < ks.length := by (have := HKL.out; omega)
              obtain ⟨r0, r1, r2⟩ := owns_cellk hr4 hjk
              have f0 := owns_froz hr4 (j * 3); have f1 := owns_froz hr4 (j * 3 + 1); have f2 := owns_froz hr4 (j * 3 + 2)
              have y0 := HYB.out.c 0; have y1 := HYB.out.c 1; have y2 := HYB.out.c 2
              clear hb3 hb4 p0 p1 p2 ht3 hyy hr4
              dsimp only at *
              go_wp2_with fail
              have hq : WSt S w nm T x (some ⟨b1, o1, none⟩) c l (j + 1) (.slice (some ⟨g, 0, none⟩) (lenF l) cap) (set3 (w3.alloc (.cells #[.string yn, .int .i64 ys, .slice a' (lenF yl) c'] 26)) g (j * 3) ⟨(yn, ys), yl, a', c'⟩) := by
                have s4 := HST2.out.below HB4.out
                exact WSt.put s4.low s4.big s4.b1 s4.b2 HR4.out HMAP.out (fun k hk => tmO_below (HTM.out k hk) HB4.out) HD.out HY.out ⟨(yn, ys), yl, a', c'⟩ HYY.out.symm HT4.out
              have HQQ := hid hq
              clear hq y0 y1 y2 r0 r1 r2 f0 f1 f2 heq4
              go_roundw
              case rel => exact ⟨j + 1, by omega, by go_num, HQQ.out⟩
              case measure => simp [intOf]; omega
        · have e1 : j = lenF l := by omega
          subst e1
          have hw1 : (kidsL l).take (lenF l) = kidsL l := by rw [← kids_len, List.take_length]
          have hw2 : (kidsL l).drop (lenF l) = [] := by rw [← kids_len, List.drop_length]
          have x0 := hst.b1.c0; have x1 := hst.b1.c1; have x2 := hst.b1.c2
          have y0 := hst.b2.c0; have y1 := hst.b2.c1; have y2 := hst.b2.c2
          have g0 := hst.b2.f (k := 0); have g1 := hst.b2.f (k := 1); have g2 := hst.b2.f (k := 2)
          have m2 := hst.b1.f (k := 2)
          rcases hst.row with ⟨rfl, hnone⟩ | ⟨hany, ks, hrow, hmap, htm⟩
          · rw [hw1] at hnone
            have HNO := hid hnone
            have hne : (binOp .neq 24 (.slice none 0 0) (.slice none 0 0)).run Try.prog wr = .ok (.bool false) wr := rfl
            clear hst hnone hw1 hw2
            go_wp2_with fail
            refine bodyPost_ret (results_ct rfl rfl (load26 (HST2.out.b2.all (x := x) _))) rfl ?_
            have hb := sets_below (B := w.heap.size + 1) HST2.out.low (by omega) (.string x.1) (.int .i64 x.2) (.slice a (lenF l) c)
            have h0 : h1N nm x l = false := HE2.out.trans HNO.out
            unfold WithEnd
            rw [h0, w1N_not h0]
            exact ⟨a, c, rfl, tmO_below HT.out hb, hb, fun _ => ⟨rfl, rfl⟩⟩
          · obtain ⟨g, cap, rfl, hg1, hg2, hg3⟩ : ∃ g cap, u6 = .slice (some ⟨g, 0, none⟩) (lenF l) cap ∧ w.heap.size + 2 ≤ g ∧ g < wr.heap.size ∧ lenF l ≤ cap := by
              refine own_slice hrow ?_
              rw [← kids_len]
              cases hk : kidsL l with
              | nil => rw [hk] at hany; simp at hany
              | cons _ _ => simp
            rw [hw1] at hany hmap
            rw [hw2, List.append_nil] at hmap
            have HANY := hid hany; have HROW := hid hrow; have HMAP := hid hmap; have HTM := hid htm
            have hne : (binOp .neq 24 (.slice (some ⟨g, 0, none⟩) (lenF l) cap) (.slice none 0 0)).run Try.prog wr = .ok (.bool true) wr := rfl
            have hne2 : (binOp .neq 24 (.slice (some ⟨g, 0, none⟩) (lenF l) cap) (.slice none 0 0)).run Try.prog (wr.setCell ⟨w.heap.size, 2, none⟩ (.slice (some ⟨g, 0, none⟩) (lenF l) cap)) = .ok (.bool true) (wr.setCell ⟨w.heap.size, 2, none⟩ (.slice (some ⟨g, 0, none⟩) (lenF l) cap)) := rfl
            have hB1 := hst.b1.set (.slice (some ⟨g, 0, none⟩) (lenF l) cap)
            have hB2 := hst.b2.other (p := ⟨w.heap.size, 2, none⟩) (by show w.heap.size + 1 ≠ w.heap.size; omega) (.slice (some ⟨g, 0, none⟩) (lenF l) cap)
            have HBA := hid hB1; have HBB := hid hB2
            have x0' := hB1.c0; have x1' := hB1.c1; have x2' := hB1.c2
            have y0' := hB2.c0; have y1' := hB2.c1; have y2' := hB2.c2
            have g0' := hB2.f (k := 0); have g1' := hB2.f (k := 1); have g2' := hB2.f (k := 2)
            have hcap := (owns_cap hrow).2
            clear hst hany hmap htm hrow hw1 hw2 hB1 hB2
            go_wp2_with fail
            refine bodyPost_ret (results_ct rfl rfl (load26 (HBB.out.all (x := x) _))) rfl ?_
            have hb := sets_below (B := w.heap.size + 1) (HST2.out.low.setCell (p := ⟨w.heap.size, 2, none⟩) (Nat.le_refl _) (.slice (some ⟨g, 0, none⟩) (lenF l) cap)) (by omega) (.string x.1) (.int .i64 x.2) (.slice (some ⟨g, 0, none⟩) (lenF l) cap)
            have hfar : ∀ q, q ≠ w.heap.size → q ≠ w.heap.size + 1 → ((((wr.setCell ⟨w.heap.size, 2, none⟩ (.slice (some ⟨g, 0, none⟩) (lenF l) cap)).setCell ⟨w.heap.size + 1, 0, none⟩ (.string x.1)).setCell ⟨w.heap.size + 1, 1, none⟩ (.int .i64 x.2)).setCell ⟨w.heap.size + 1, 2, none⟩ (.slice (some ⟨g, 0, none⟩) (lenF l) cap)).heap[q]? = wr.heap[q]? := fun q h1 h2 => (sets_far h2 _ _ _).trans (set_far h1 _ _)
            generalize (((wr.setCell ⟨w.heap.size, 2, none⟩ (.slice (some ⟨g, 0, none⟩) (lenF l) cap)).setCell ⟨w.heap.size + 1, 0, none⟩ (.string x.1)).setCell ⟨w.heap.size + 1, 1, none⟩ (.int .i64 x.2)).setCell ⟨w.heap.size + 1, 2, none⟩ (.slice (some ⟨g, 0, none⟩) (lenF l) cap) = WE at hb hfar ⊢
            have h0 : h1N nm x l = true := HE2.out.trans HANY.out
            unfold WithEnd
            rw [h0, HE1.out]
            have hre : WE.ownsRow (w.heap.size + 2) 26 3 (.slice (some ⟨g, 0, none⟩) (lenF l) cap) (lenF l) (kvCells ks) := owns_block HROW.out fun q hq => by
              have e2 : some g = some q := hq
              have := Option.some.inj e2
              exact hfar q (by omega) (by omega)
            refine ⟨some ⟨g, 0, none⟩, cap, (by rw [w1F_len]; rfl), ⟨⟨HT.out.sizes.name, by rw [w1F_len]; exact hg3, hcap, by rw [w1F_len]; exact HT.out.sizes.few⟩, .inr ⟨g, 0, rfl, kids_build _ ks 0 (by rw [w1F_kids]; exact HMAP.out.symm) (fun i u hu => ?_) (fun k hk => ?_)⟩⟩, hb, fun h => by cases h⟩
            · obtain ⟨o, ho1, ho2⟩ := row26 hre (g := g) rfl
              rw [Nat.zero_add]
              exact off_of ho1 (HSS.out g o (by omega) ho2) (owns_cell0 hre hu)
            · exact tmO_move (HTM.out k hk) fun b o ho hs => by
                obtain ⟨s1, s2, s3, s4⟩ := hid1_iff.1 hs
                exact ⟨(hfar b s3 s4).trans ho, s1⟩
end Go.Proofs.Ytfnfbljijkjkjaa
/- putIn of the solver. -/
namespace Go.Proofs.Ytfnfbljijkjkjaa
open Go.RowKit Go.Shelf Go.Deep

/-- What putIn leaves where there is room. -/
def PutTo (S : Nat → Obj → Bool) (nm : ByteArray) (T : Tn) (g o : Nat) (k : Kv) (w w' : World) : Prop :=
  ∃ (k' : Kv) (w1 : World), k'.tn = w1N nm T k.x k.l ∧ Below w.heap.size w w1 ∧ TmO S w1 k'.x k'.a k'.c k'.l ∧ (w' = set3 w1 g o k' ∨ (w' = w1 ∧ k' = k))
def roomB (nm : ByteArray) (N : Int) (x : ByteArray × Int) (l : Fo) : Bool := decide (0 ≤ l1N nm N x l 400)
set_option maxRecDepth 100000 in
set_option maxHeartbeats 4000000 in
theorem putIn_no (nm : ByteArray) (T : Tn) (ta : Option Addr) (tc : Nat) {N : Int} (hN : 0 ≤ N ∧ N ≤ 1048577) (Q g o : Nat) (k : Kv) (w : World) (hQ : Box w Q 92 (ptC nm T ta tc N)) (hT : TmAt w k.x k.a k.c k.l)
    (c0 : w.cell? ⟨g, o, none⟩ = some (.string k.x.1)) (c1 : w.cell? ⟨g, o + 1, none⟩ = some (.int .i64 k.x.2)) (c2 : w.cell? ⟨g, o + 2, none⟩ = some (.slice k.a (lenF k.l) k.c)) (hf : roomB nm N k.x k.l = false) :
    Calls Try.prog 75 #[.pointer (some ⟨Q, 0, none⟩), .pointer (some ⟨g, o, none⟩)] w fun e w' => e = .returned (.bool false) ∧ Below w.heap.size w w' := by
  have HL := hid (left1_all nm T ta tc hN (nodesF k.l) k.x k.l k.a k.c Q 400 w (Nat.le_refl _) hT hQ (by omega) (by omega))
  have hf' : l1N nm N k.x k.l 400 < 0 := by have := of_decide_eq_false hf; omega
  obtain ⟨x, l, a, c⟩ := k
  dsimp only at *
  generalize l1N nm N x l 400 = lv at HL hf'
  clear hQ hT hf
  go_enter Try.func75, Try.ntmps75
  go_wp2_with (go_at_call 97; refine HL.out.mono ?_; rintro e w1 ⟨rfl, hb1⟩; have HB1 := hid hb1; clear hb1)
  go_ret
  exact ⟨rfl, HB1.out⟩
set_option maxRecDepth 100000 in
set_option maxHeartbeats 4000000 in
theorem putIn_yes (S : Nat → Obj → Bool) (nm : ByteArray) (T : Tn) (ta : Option Addr) (tc : Nat) {N : Int} (hN : 0 ≤ N ∧ N ≤ 1048577) (Q g o : Nat) (k : Kv) (w : World) (hQ : Box w Q 92 (ptC nm T ta tc N)) (hSS : ∀ b o, w.heap.size ≤ b → is26 o = true → S b o = true) (hT : TmO S w k.x k.a k.c k.l) (hTT : TmO S w T.1 ta tc T.2) (hM : nodesF k.l ≤ 1048576)
    (c0 : w.cell? ⟨g, o, none⟩ = some (.string k.x.1)) (c1 : w.cell? ⟨g, o + 1, none⟩ = some (.int .i64 k.x.2)) (c2 : w.cell? ⟨g, o + 2, none⟩ = some (.slice k.a (lenF k.l) k.c)) (hfz : ∀ i, w.frozen? ⟨g, i, none⟩ = false) (hf : roomB nm N k.x k.l = true) :
    Calls Try.prog 75 #[.pointer (some ⟨Q, 0, none⟩), .pointer (some ⟨g, o, none⟩)] w fun e w' => e = .returned (.bool true) ∧ PutTo S nm T g o k w w' := by
  have HL := hid (left1_all nm T ta tc hN (nodesF k.l) k.x k.l k.a k.c Q 400 w (Nat.le_refl _) (tmO_tm hT) hQ (by omega) (by omega))
  have HW := hid fun (W : World) (hW : Below w.heap.size w W) => with1_all nm T ta tc N (nodesF k.l) S k.x k.l k.a k.c Q W (Nat.le_refl _) hM (fun b o hb ho => hSS b o (by have := hW.size; omega) ho) (tmO_below hT hW) (tmO_below hTT hW) (hQ.below hW)
  have hf' : 0 ≤ l1N nm N k.x k.l 400 := of_decide_eq_true hf
  have hgl := World.block_lt_of_cell? w _ c0
  have HT := hid hT
  unfold PutTo
  obtain ⟨x, l, a, c⟩ := k
  dsimp only at *
  have HP : Hid (∀ W, Below w.heap.size w W → W.cell? ⟨g, o, none⟩ = some (.string x.1) ∧ W.cell? ⟨g, o + 1, none⟩ = some (.int .i64 x.2) ∧ W.cell? ⟨g, o + 2, none⟩ = some (.slice a (lenF l) c)) := hid fun W hW => ⟨below_cell hW _ _ c0, below_cell hW _ _ c1, below_cell hW _ _ c2⟩
  have HFZ : Hid (∀ W i, Below w.heap.size w W → W.frozen? ⟨g, i, none⟩ = false) := hid fun W i hW => (World.frozen?_of_block (hW.block g hgl)).trans (hfz i)
  generalize l1N nm N x l 400 = lv at HL hf'
  clear hQ hT hf hTT hSS hfz hgl
  unfold WithEnd at HW
  cases hy : h1N nm x l
  · rw [hy] at HW
    have HY := hid hy
    clear hy
    go_enter Try.func75, Try.ntmps75
    go_wp2_with (first
      | (go_at_call 97; refine HL.out.mono ?_; rintro e w1 ⟨rfl, hb1⟩; have HB1 := hid hb1; obtain ⟨c0, c1, c2⟩ := HP.out _ hb1; clear hb1)
      | (go_at_call 98; refine (HW.out _ HB1.out).mono ?_; rintro e w2 ⟨a', c', rfl, ht2, hb2, h7⟩; obtain ⟨rfl, rfl⟩ := h7 trivial; have HB2 := hid (HB1.out.trans ((hb2.trans ((alloc_below0 w2 (.cells #[.string (w1N nm T x l).1.1, .int .i64 (w1N nm T x l).1.2, .slice a' (lenF (w1N nm T x l).2) c'] 26)).mono hb2.size)).mono HB1.out.size)); clear hb2 ht2 h7))
    go_ret
    exact ⟨rfl, ⟨x, l, a', c'⟩, _, (w1N_not HY.out).symm, HB2.out, tmO_below HT.out HB2.out, .inr ⟨rfl, rfl⟩⟩
  · rw [hy] at HW
    have HY := hid hy
    clear hy
    generalize hyy : w1N nm T x l = yy at HW
    obtain ⟨⟨yn, ys⟩, yl⟩ := yy
    have HYY := hid hyy
    clear hyy
    dsimp only at *
    go_enter Try.func75, Try.ntmps75
    go_wp2_with (first
      | (go_at_call 97; refine HL.out.mono ?_; rintro e w1 ⟨rfl, hb1⟩; have HB1 := hid hb1; obtain ⟨c0, c1, c2⟩ := HP.out _ hb1; clear hb1)
      | (go_at_call 98; refine (HW.out _ HB1.out).mono ?_; rintro e w2 ⟨a', c', rfl, ht2, hb2, _⟩; have hal := alloc_below0 w2 (.cells #[.string yn, .int .i64 ys, .slice a' (lenF yl) c'] 26); have HB2 := hid (HB1.out.trans ((hb2.trans (hal.mono hb2.size)).mono HB1.out.size)); have HT2 := hid (tmO_below ht2 hal); obtain ⟨c0, c1, c2⟩ := HP.out _ HB2.out; have f0 := HFZ.out _ o HB2.out; have f1 := HFZ.out _ (o + 1) HB2.out; have f2 := HFZ.out _ (o + 2) HB2.out; clear hb2 ht2 hal))
    go_ret
    exact ⟨rfl, ⟨(yn, ys), yl, a', c'⟩, _, rfl, HB2.out, HT2.out, .inl rfl⟩
end Go.Proofs.Ytfnfbljijkjkjaa
/- The solver in memory; putInSides. -/
namespace Go.Proofs.Ytfnfbljijkjkjaa
open Go.RowKit Go.Shelf Go.Deep

/-- Blocks that were there at the start, and rows of terms. -/
def S0 (N : Nat) : Nat → Obj → Bool := fun i o => decide (i < N) || is26 o
theorem S0_not {N g : Nat} {cs : Array Value} {e : TypeId} {fr : Nat × Nat} (h : N ≤ g) (he : e ≠ 26) : S0 N g (.cells cs e fr) = false := by
  unfold S0 is26
  simp only [Bool.or_eq_false_iff, decide_eq_false_iff_not, beq_eq_false_iff_ne]
  exact ⟨by omega, he⟩
abbrev Bk := ByteArray × Kv
def bdCells (bs : List Bk) : List Value := bs.flatMap fun b => .string b.1 :: b.2.cells
theorem bdCells_len (bs : List Bk) : (bdCells bs).length = bs.length * 4 := by
  induction bs with
  | nil => rfl
  | cons b r ih =>
    have e : bdCells (b :: r) = .string b.1 :: .string b.2.x.1 :: .int .i64 b.2.x.2 :: .slice b.2.a (lenF b.2.l) b.2.c :: bdCells r := rfl
    rw [e]; simp only [List.length_cons, ih]; omega
/-- The solver: its box, its rows; what it holds are terms that lie apart from them. -/
structure Sv (w0 : World) (B : Nat) (v1 v2 : Value) (n : Nat) (es : List Kv) (bs : List Bk) (W : World) : Prop where
  low : Below w0.heap.size w0 W
  hB : w0.heap.size ≤ B
  box : Box W B 63 #[v1, v2]
  len : es.length = 2 * n
  r1 : W.ownsRow (B + 1) 28 6 v1 n (kvCells es)
  r2 : W.ownsRow (B + 1) 33 4 v2 bs.length (bdCells bs)
  te : ∀ k ∈ es, TmO (S0 w0.heap.size) W k.x k.a k.c k.l
  tb : ∀ b ∈ bs, TmO (S0 w0.heap.size) W b.2.x b.2.a b.2.c b.2.l
theorem Sv.below {w0 : World} {B : Nat} {v1 v2 : Value} {n : Nat} {es : List Kv} {bs : List Bk} {W W' : World} (h : Sv w0 B v1 v2 n es bs W) (hb : Below W.heap.size W W') : Sv w0 B v1 v2 n es bs W' :=
  ⟨h.low.trans (hb.mono h.low.size), h.hB, h.box.below hb, h.len, owns_below h.r1 hb, owns_below h.r2 hb, fun k hk => tmO_below (h.te k hk) hb, fun b hbb => tmO_below (h.tb b hbb) hb⟩
theorem Sv.size {w0 : World} {B : Nat} {v1 v2 : Value} {n : Nat} {es : List Kv} {bs : List Bk} {W : World} (h : Sv w0 B v1 v2 n es bs W) : w0.heap.size ≤ W.heap.size := h.low.size
theorem row_ne {W : World} {base base' e e' z z' n n' g : Nat} {v v' : Value} {xs xs' : List Value} (h : W.ownsRow base e z v n xs) (h' : W.ownsRow base' e' z' v' n' xs') (he : e ≠ e') (hg : v.ownBlock = some g) : v'.ownBlock ≠ some g := fun hg' => by
  obtain ⟨_, c1, h1⟩ := owns_cells h hg
  obtain ⟨_, c2, h2⟩ := owns_cells h' hg'
  rw [h1] at h2
  exact he (by simpa using congrArg (fun o : Option Obj => match o with | some (.cells _ e _) => e | _ => 0) h2)
theorem row_box {W : World} {base e z n g T : Nat} {v : Value} {xs : List Value} {cs : Array Value} (h : W.ownsRow base e z v n xs) (hb : Box W g T cs) (he : e ≠ T) : v.ownBlock ≠ some g := fun hg => by
  obtain ⟨_, c1, h1⟩ := owns_cells h hg
  rw [show W.heap[g]? = _ from hb] at h1
  exact he (by simpa using (congrArg (fun o : Option Obj => match o with | some (.cells _ e _) => e | _ => 0) h1).symm)
theorem tmO_set3 {N : Nat} {W : World} {g o : Nat} {k : Kv} {cs : Array Value} {e : TypeId} {fr : Nat × Nat} (hg : N ≤ g) (hc : W.heap[g]? = some (.cells cs e fr)) (he : e ≠ 26) {x : ByteArray × Int} {a : Option Addr} {c : Nat} {l : Fo} (h : TmO (S0 N) W x a c l) : TmO (S0 N) (set3 W g o k) x a c l :=
  tmO_fr h (set3_fr W g o k) fun b ob hb ho => by
    subst hb
    rw [hc] at ho
    cases ho
    exact S0_not hg he
/-- A side that is stored over. -/
theorem Sv.side {w0 : World} {B : Nat} {v2 : Value} {n g cap : Nat} {es : List Kv} {bs : List Bk} {W W' : World} (h : Sv w0 B (.slice (some ⟨g, 0, none⟩) n cap) v2 n es bs W) {nm : ByteArray} {T : Tn} {m : Nat} (hm : m < es.length) (hp : PutTo (S0 w0.heap.size) nm T g (m * 3) es[m] W W') :
    ∃ k' : Kv, k'.tn = w1N nm T es[m].x es[m].l ∧ Sv w0 B (.slice (some ⟨g, 0, none⟩) n cap) v2 n (es.set m k') bs W' ∧ Fr (fun q => q = g) W W' := by
  obtain ⟨k', w1, h1, h2, h3, h4⟩ := hp
  have hs := h.below h2
  refine ⟨k', h1, ?_⟩
  rcases h4 with rfl | ⟨rfl, rfl⟩
  · obtain ⟨hg0, cur, hcur⟩ := owns_cells hs.r1 (g := g) rfl
    have hB := hs.hB
    have hBg : B ≠ g := fun e => by omega
    have hg : w0.heap.size ≤ g := by omega
    refine ⟨⟨set3_below hs.low hg _ _, hB, (set3_far hBg _ _).trans hs.box, by rw [List.length_set]; exact hs.len, owns_set3 hs.r1 hm k', owns_block hs.r2 (fun q hq => set3_far (fun e => by subst e; exact row_ne hs.r1 hs.r2 (by decide) rfl hq) _ _), fun k hk => ?_, fun b hb => tmO_set3 hg hcur (by decide) (hs.tb b hb)⟩, (Fr.of_below h2).trans (set3_fr w1 g _ k')⟩
    rcases List.mem_or_eq_of_mem_set hk with h5 | rfl
    · exact tmO_set3 hg hcur (by decide) (hs.te k h5)
    · exact tmO_set3 hg hcur (by decide) h3
  · rw [List.set_getElem_self]
    exact ⟨hs, Fr.of_below h2⟩
theorem map_set_tn {es es' : List Kv} {m : Nat} (hm : m < es.length) {f : Tn → Tn} {k : Kv} (h : es'.map Kv.tn = (es.take m).map (fun q => f q.tn) ++ (es.drop m).map Kv.tn) (hk : k.tn = f es[m].tn) : (es'.set m k).map Kv.tn = (es.take (m + 1)).map (fun q => f q.tn) ++ (es.drop (m + 1)).map Kv.tn := by
  have hl : ((es.take m).map (fun q => f q.tn)).length = m := by rw [List.length_map, List.length_take]; omega
  rw [List.map_set, h, List.drop_eq_getElem_cons hm, List.map_cons, List.set_append_right _ _ (by omega), hl, Nat.sub_self, List.set_cons_zero, List.take_succ_eq_append_getElem hm, List.map_append, List.append_assoc, hk]
  rfl
theorem map_at_tn {es es' : List Kv} {m : Nat} (hm : m < es.length) {f : Tn → Tn} (h : es'.map Kv.tn = (es.take m).map (fun q => f q.tn) ++ (es.drop m).map Kv.tn) : ∃ hm' : m < es'.length, (es'[m]'hm').tn = es[m].tn := by
  have hl : ((es.take m).map (fun q => f q.tn)).length = m := by rw [List.length_map, List.length_take]; omega
  have hl2 := congrArg List.length h
  rw [List.length_map, List.length_append, hl, List.length_map, List.length_drop] at hl2
  refine ⟨by omega, ?_⟩
  have := congrArg (fun l => l[m]?) h
  rw [List.getElem?_map, List.getElem?_eq_getElem (by omega), List.getElem?_append_right (by omega), hl, Nat.sub_self, List.drop_eq_getElem_cons hm, List.map_cons, List.getElem?_cons_zero, Option.map_some] at this
  exact Option.some.inj this
def roomK (nm : ByteArray) (N : Int) (k : Kv) : Bool := roomB nm N k.x k.l
def w1T (nm : ByteArray) (T : Tn) (t : Tn) : Tn := w1N nm T t.1 t.2

theorem side_no {nm : ByteArray} {T : Tn} {ta : Option Addr} {tc : Nat} {N : Int} (hN : 0 ≤ N ∧ N ≤ 1048577) {Q : Nat} {w0 : World} {B : Nat} {v2 : Value} {n g cap : Nat} {es : List Kv} {bs : List Bk} {W : World} (hS : Sv w0 B (.slice (some ⟨g, 0, none⟩) n cap) v2 n es bs W) (hQ : Box W Q 92 (ptC nm T ta tc N)) {m : Nat} (hm : m < es.length) (hr : roomK nm N es[m] = false) :
    Calls Try.prog 75 #[.pointer (some ⟨Q, 0, none⟩), .pointer (some ⟨g, m * 3, none⟩)] W fun e W' => e = .returned (.bool false) ∧ Below W.heap.size W W' := by
  obtain ⟨c0, c1, c2⟩ := owns_cellk hS.r1 hm
  exact putIn_no nm T ta tc hN Q g (m * 3) es[m] W hQ (tmO_tm (hS.te _ (List.getElem_mem hm))) c0 c1 c2 hr
theorem sv_seen (N : Nat) (W : World) : ∀ b o, W.heap.size ≤ b → is26 o = true → S0 N b o = true := fun b o _ ho => by unfold S0; rw [ho, Bool.or_true]
theorem side_yes {nm : ByteArray} {T : Tn} {ta : Option Addr} {tc : Nat} {N : Int} (hN : 0 ≤ N ∧ N ≤ 1048577) {Q : Nat} {w0 : World} {B : Nat} {v2 : Value} {n g cap : Nat} {es : List Kv} {bs : List Bk} {W : World} (hS : Sv w0 B (.slice (some ⟨g, 0, none⟩) n cap) v2 n es bs W) (hQ : Box W Q 92 (ptC nm T ta tc N)) (hTT : TmO (S0 w0.heap.size) W T.1 ta tc T.2) {m : Nat} (hm : m < es.length) (hM : nodesF es[m].l ≤ 1048576) (hr : roomK nm N es[m] = true) :
    Calls Try.prog 75 #[.pointer (some ⟨Q, 0, none⟩), .pointer (some ⟨g, m * 3, none⟩)] W fun e W' => e = .returned (.bool true) ∧ ∃ k' : Kv, k'.tn = w1T nm T es[m].tn ∧ Sv w0 B (.slice (some ⟨g, 0, none⟩) n cap) v2 n (es.set m k') bs W' ∧ Fr (fun q => q = g) W W' := by
  obtain ⟨c0, c1, c2⟩ := owns_cellk hS.r1 hm
  refine (putIn_yes (S0 w0.heap.size) nm T ta tc hN Q g (m * 3) es[m] W hQ (sv_seen _ W) (hS.te _ (List.getElem_mem hm)) hTT hM c0 c1 c2 (owns_froz hS.r1) hr).mono fun e W' ⟨he, hp⟩ => ⟨he, ?_⟩
  exact hS.side hm hp
/-- What is kept beside the rows. -/
theorem fr_box {W W' : World} {Q g T : Nat} {cs : Array Value} (hf : Fr (fun q => q = g) W W') (h : Box W Q T cs) (hne : Q ≠ g) : Box W' Q T cs := (hf.same Q h.lt hne).trans h
theorem all_no {α : Type} {f : α → Bool} {l : List α} {m : Nat} (hm : m < l.length) (h : f l[m] = false) : l.all f = false := by
  rw [List.all_eq_false]
  exact ⟨l[m], List.getElem_mem hm, by simp [h]⟩
theorem all_next {α : Type} {f : α → Bool} {l : List α} {m : Nat} (hm : m < l.length) (h : (l.take m).all f = true) (h2 : f l[m] = true) : (l.take (m + 1)).all f = true := by
  rw [List.take_succ_eq_append_getElem hm, List.all_append, h]
  simp [h2]

set_option maxRecDepth 100000 in
set_option maxHeartbeats 4000000 in
theorem sides_any (nm : ByteArray) (T : Tn) (ta : Option Addr) (tc : Nat) {N : Int} (hN : 0 ≤ N ∧ N ≤ 1048577) (Q : Nat) (w0 : World) (B : Nat) (v1 v2 : Value) (n : Nat) (es : List Kv) (bs : List Bk) (W : World) (hS : Sv w0 B v1 v2 n es bs W) (hQ : Box W Q 92 (ptC nm T ta tc N)) (hTT : TmO (S0 w0.heap.size) W T.1 ta tc T.2) (hn : n ≤ 1073741824) (hM : ∀ k ∈ es, nodesF k.l ≤ 1048576) :
    Calls Try.prog 55 #[.pointer (some ⟨B, 0, none⟩), .pointer (some ⟨Q, 0, none⟩)] W fun e W' => e = .returned (.bool (es.all (roomK nm N))) ∧ Below w0.heap.size w0 W' ∧ (es.all (roomK nm N) = true → Fr (fun q => v1.ownBlock = some q) W W' ∧ ∃ es' : List Kv, es'.map Kv.tn = es.map (fun k => w1T nm T k.tn) ∧ Sv w0 B v1 v2 n es' bs W') := by
  obtain ⟨p1, cap1, rfl, hcap, _, _⟩ := own_any hS.r1
  have HS := hid hS; have HQ := hid hQ; have HTT := hid hTT; have HM := hid hM
  have b0 := hS.box.c 0
  clear hS hQ hTT hM
  go_enter Try.func55, Try.ntmps55
  go_wp2_with fail
  go_loopw [12] (fun iv wr => ∃ (j : Nat) (es' : List Kv), j ≤ n ∧ iv = .int .i64 j ∧ Sv w0 B (.slice p1 n cap1) v2 n es' bs wr ∧ Fr (fun q => (Value.slice p1 n cap1).ownBlock = some q) W wr ∧ es'.map Kv.tn = (es.take (2 * j)).map (fun k => w1T nm T k.tn) ++ (es.drop (2 * j)).map Kv.tn ∧ (es.take (2 * j)).all (roomK nm N) = true) (fun iv _ => n - (intOf iv).toNat)
  case atStart => exact ⟨0, es, Nat.zero_le _, rfl, HS.out, Fr.refl _ _, by simp, rfl⟩
  case round =>
    obtain ⟨j, es', hj, rfl, hs, hfr, hmap, hall⟩ := hrel
    have HS2 := hid hs; have HFR := hid hfr; have HMAP := hid hmap; have HALL := hid hall
    by_cases hlt : j < n
    · obtain ⟨g, rfl⟩ : ∃ g, p1 = some ⟨g, 0, none⟩ := by
        obtain ⟨g, cap, e, _⟩ := own_slice hs.r1 (by omega)
        cases e
        exact ⟨g, rfl⟩
      have hel := HS.out.len
      have hm0 : 2 * j < es.length := by omega
      have hm1 : 2 * j + 1 < es.length := by omega
      obtain ⟨hm0', e0⟩ := map_at_tn hm0 hmap
      have hQg : Q ≠ g := fun e => row_box hs.r1 (T := 92) (g := Q) ((hfr.same Q HQ.out.lt (fun h => row_box HS.out.r1 HQ.out (by decide) h)).trans HQ.out) (by decide) (by rw [e]; rfl)
      have hQ1 : Box wr Q 92 (ptC nm T ta tc N) := (hfr.same Q HQ.out.lt (fun h => row_box HS.out.r1 HQ.out (by decide) h)).trans HQ.out
      have hT1 : TmO (S0 w0.heap.size) wr T.1 ta tc T.2 := tmO_fr HTT.out hfr (fun b o hb ho => by
        have hb' : some g = some b := hb
        cases hb'
        obtain ⟨h1, cur, h2⟩ := owns_cells HS.out.r1 (g := g) rfl
        rw [h2] at ho
        cases ho
        exact S0_not (by have := HS.out.hB; omega) (by decide))
      have b0' := hs.box.c 0
      have hx0 : roomK nm N es'[2 * j] = roomK nm N es[2 * j] := by
        have e2 : (es'[2 * j].x, es'[2 * j].l) = (es[2 * j].x, es[2 * j].l) := e0
        unfold roomK
        rw [(Prod.mk.inj e2).1, (Prod.mk.inj e2).2]
      cases hr0 : roomK nm N es[2 * j]
      case false =>
        have hc := side_no hN hs hQ1 hm0' (hx0.trans hr0)
        rw [show 2 * j * 3 = j * 6 by omega] at hc
        have HC := hid hc
        have HA := hid (all_no hm0 hr0)
        clear hc hs hfr hmap hall hQ1 hT1 hx0 e0
        go_wp2_with (go_at_call 75; refine HC.out.mono ?_; rintro e w3 ⟨rfl, hb3⟩; have HB3 := hid hb3; clear hb3)
        go_ret
        refine ⟨by rw [HA.out] <;> rfl, HS2.out.low.trans (HB3.out.mono HS2.out.low.size), fun h => by rw [HA.out] at h; cases h⟩
      case true =>
        have hl0 : nodesF es'[2 * j].l ≤ 1048576 := by
          have e2 : (es'[2 * j].x, es'[2 * j].l) = (es[2 * j].x, es[2 * j].l) := e0
          rw [(Prod.mk.inj e2).2]
          exact HM.out _ (List.getElem_mem hm0)
        have hc := side_yes hN hs hQ1 hT1 hm0' hl0 (hx0.trans hr0)
        rw [show 2 * j * 3 = j * 6 by omega] at hc
        have HC := hid hc
        have HE0 := hid e0; have HQ1 := hid hQ1; have HT1 := hid hT1
        have HR0 := hid hr0
        cases hr1 : roomK nm N es[2 * j + 1]
        case false =>
          have HA := hid (all_no hm1 hr1)
          have HR1 := hid hr1
          clear hc hs hfr hmap hall hQ1 hT1 hx0 e0 hr0 hr1
          go_wp2_with (first
            | (go_at_call 75; (with_reducible refine HC1.out.mono ?_); rintro e w4 ⟨rfl, hb4⟩; have HB4 := hid hb4; clear hb4)
            | (go_at_call 75; (with_reducible refine HC.out.mono ?_); rintro e w3 ⟨rfl, k', hk', hs3, hf3⟩; have hmp := map_set_tn hm0 HMAP.out (k := k') (hk'.trans (congrArg (w1T nm T) HE0.out)); obtain ⟨hm1', e1⟩ := map_at_tn hm1 hmp; have hc1 := side_no hN hs3 (fr_box hf3 HQ1.out hQg) hm1' (by have e2 : ((es'.set (2 * j) k')[2 * j + 1].x, (es'.set (2 * j) k')[2 * j + 1].l) = (es[2 * j + 1].x, es[2 * j + 1].l) := e1; unfold roomK; rw [(Prod.mk.inj e2).1, (Prod.mk.inj e2).2]; exact HR1.out); rw [show (2 * j + 1) * 3 = j * 6 + 3 by omega] at hc1; have HC1 := hid hc1; have HS3 := hid hs3; clear hs3 hf3 hc1 hmp e1 hk'))
          go_ret
          refine ⟨by rw [HA.out] <;> rfl, HS3.out.low.trans (HB4.out.mono HS3.out.low.size), fun h => by rw [HA.out] at h; cases h⟩
        case true =>
          have HR1 := hid hr1
          clear hc hs hfr hmap hall hQ1 hT1 hx0 e0 hr0 hr1
          go_wp2_with (first
            | (go_at_call 75; (with_reducible refine HC1.out.mono ?_); rintro e w4 ⟨rfl, k4, hk4, hs4, hf4⟩; have HK4 := hid hk4; have HS4 := hid hs4; have HF4 := hid hf4; clear hk4 hs4 hf4)
            | (go_at_call 75; (with_reducible refine HC.out.mono ?_); rintro e w3 ⟨rfl, k', hk', hs3, hf3⟩; have hmp := map_set_tn hm0 HMAP.out (k := k') (hk'.trans (congrArg (w1T nm T) HE0.out)); obtain ⟨hm1', e1⟩ := map_at_tn hm1 hmp; have e2 : ((es'.set (2 * j) k')[2 * j + 1].x, (es'.set (2 * j) k')[2 * j + 1].l) = (es[2 * j + 1].x, es[2 * j + 1].l) := e1; have hc1 := side_yes hN hs3 (fr_box hf3 HQ1.out hQg) (tmO_fr HT1.out hf3 (fun b o hb ho => by (subst hb; obtain ⟨h1, cur, h2⟩ := owns_cells HS2.out.r1 (g := b) rfl; rw [h2] at ho; cases ho; exact S0_not (by have := HS2.out.hB; omega) (by decide)))) hm1' (by rw [(Prod.mk.inj e2).2]; exact HM.out _ (List.getElem_mem hm1)) (by unfold roomK; rw [(Prod.mk.inj e2).1, (Prod.mk.inj e2).2]; exact HR1.out); rw [show (2 * j + 1) * 3 = j * 6 + 3 by omega] at hc1; have HC1 := hid hc1; have HMP := hid hmp; have HE1 := hid e1; have HF3 := hid hf3; clear hs3 hf3 hc1 hmp e1 e2 hk'))
          have hne : (es.take (2 * j + 1)).all (roomK nm N) = true := all_next hm0 HALL.out HR0.out
          have hne2 : (es.take (2 * j + 1 + 1)).all (roomK nm N) = true := all_next hm1 hne HR1.out
          have hmp2 := map_set_tn hm1 HMP.out (k := k4) (HK4.out.trans (congrArg (w1T nm T) HE1.out))
          have hfr2 : Fr (fun q => (Value.slice (some ⟨g, 0, none⟩) n cap1).ownBlock = some q) W w4 := HFR.out.trans ((HF3.out.trans HF4.out).mono (fun q hq => by rw [hq]; rfl))
          have HNE2 := hid hne2; have HMP2 := hid hmp2; have HFR2 := hid hfr2
          clear hne hne2 hmp2 hfr2
          go_roundw
          case rel => exact ⟨j + 1, _, by omega, by go_num, HS4.out, HFR2.out, HMP2.out, HNE2.out⟩
          case measure => simp [intOf]; omega
    · have e1 : j = n := by omega
      subst e1
      have hel := HS.out.len
      rw [← hel, List.take_length] at hmap hall
      rw [List.drop_length, List.map_nil, List.append_nil] at hmap
      have HA := hid hall; have HMP := hid hmap
      clear hs hfr hmap hall
      go_wp2_with fail
      go_ret
      exact ⟨by rw [HA.out] <;> rfl, HS2.out.low, fun _ => ⟨HFR.out, es', HMP.out, HS2.out⟩⟩
end Go.Proofs.Ytfnfbljijkjkjaa
/- putInBound of the solver. -/
namespace Go.Proofs.Ytfnfbljijkjkjaa
open Go.RowKit Go.Shelf Go.Deep

def btn (b : Bk) : Bn := (b.1, b.2.tn)
theorem bd_at : ∀ (bs : List Bk) (i : Nat) (h : i < bs.length), (bdCells bs)[i * 4]? = some (.string bs[i].1) ∧ (bdCells bs)[i * 4 + 1]? = some (.string bs[i].2.x.1) ∧ (bdCells bs)[i * 4 + 2]? = some (.int .i64 bs[i].2.x.2) ∧ (bdCells bs)[i * 4 + 3]? = some (.slice bs[i].2.a (lenF bs[i].2.l) bs[i].2.c)
  | [], i, h => absurd h (by simp)
  | k :: r, 0, _ => ⟨rfl, rfl, rfl, rfl⟩
  | k :: r, i + 1, h => by
    have ih := bd_at r i (by simpa using h)
    have e : bdCells (k :: r) = .string k.1 :: .string k.2.x.1 :: .int .i64 k.2.x.2 :: .slice k.2.a (lenF k.2.l) k.2.c :: bdCells r := rfl
    rw [e, show (i + 1) * 4 = i * 4 + 1 + 1 + 1 + 1 by omega, show i * 4 + 1 + 1 + 1 + 1 + 1 = (i * 4 + 1) + 1 + 1 + 1 + 1 by omega, show i * 4 + 1 + 1 + 1 + 1 + 2 = (i * 4 + 2) + 1 + 1 + 1 + 1 by omega, show i * 4 + 1 + 1 + 1 + 1 + 3 = (i * 4 + 3) + 1 + 1 + 1 + 1 by omega]
    simp only [List.getElem?_cons_succ, List.getElem_cons_succ]
    exact ih
theorem bd_set : ∀ (bs : List Bk) (m : Nat) (k : Kv) (h : m < bs.length), bdCells (bs.set m (bs[m].1, k)) = (((bdCells bs).set (m * 4 + 1) (.string k.x.1)).set (m * 4 + 1 + 1) (.int .i64 k.x.2)).set (m * 4 + 1 + 2) (.slice k.a (lenF k.l) k.c)
  | [], m, k, h => absurd h (by simp)
  | q :: r, 0, k, _ => rfl
  | q :: r, m + 1, k, h => by
    have ih := bd_set r m k (by simpa using h)
    have e : bdCells (q :: r) = .string q.1 :: .string q.2.x.1 :: .int .i64 q.2.x.2 :: .slice q.2.a (lenF q.2.l) q.2.c :: bdCells r := rfl
    have e2 : bdCells ((q :: r).set (m + 1) ((q :: r)[m + 1].1, k)) = .string q.1 :: .string q.2.x.1 :: .int .i64 q.2.x.2 :: .slice q.2.a (lenF q.2.l) q.2.c :: bdCells (r.set m ((r[m]'(by simpa using h)).1, k)) := rfl
    rw [e, e2, ih, show (m + 1) * 4 + 1 = (m * 4 + 1) + 1 + 1 + 1 + 1 by omega, show (m * 4 + 1) + 1 + 1 + 1 + 1 + 1 = (m * 4 + 1 + 1) + 1 + 1 + 1 + 1 by omega, show (m * 4 + 1) + 1 + 1 + 1 + 1 + 2 = (m * 4 + 1 + 2) + 1 + 1 + 1 + 1 by omega]
    simp only [List.set_cons_succ]
theorem owns_setb {w : World} {base e size g n cap : Nat} {bs : List Bk} (h : w.ownsRow base e size (.slice (some ⟨g, 0, none⟩) n cap) n (bdCells bs)) {m : Nat} (hm : m < bs.length) (k : Kv) : (set3 w g (m * 4 + 1) k).ownsRow base e size (.slice (some ⟨g, 0, none⟩) n cap) n (bdCells (bs.set m (bs[m].1, k))) := by
  rw [bd_set bs m k hm]
  exact owns_set1 (owns_set1 (owns_set1 h _ _) _ _) _ _
theorem owns_cellb {w : World} {base e size g n cap : Nat} {bs : List Bk} (h : w.ownsRow base e size (.slice (some ⟨g, 0, none⟩) n cap) n (bdCells bs)) {m : Nat} (hm : m < bs.length) :
    w.cell? ⟨g, m * 4, none⟩ = some (.string bs[m].1) ∧ w.cell? ⟨g, m * 4 + 1, none⟩ = some (.string bs[m].2.x.1) ∧ w.cell? ⟨g, m * 4 + 1 + 1, none⟩ = some (.int .i64 bs[m].2.x.2) ∧ w.cell? ⟨g, m * 4 + 1 + 2, none⟩ = some (.slice bs[m].2.a (lenF bs[m].2.l) bs[m].2.c) := by
  obtain ⟨h0, h1, h2, h3⟩ := bd_at bs m hm
  exact ⟨owns_cell0 h h0, owns_cell0 h h1, owns_cell0 h h2, owns_cell0 h h3⟩
theorem Sv.bind {w0 : World} {B : Nat} {v1 : Value} {n g nb cap : Nat} {es : List Kv} {bs : List Bk} {W W' : World} (h : Sv w0 B v1 (.slice (some ⟨g, 0, none⟩) nb cap) n es bs W) (hnb : nb = bs.length) {nm : ByteArray} {T : Tn} {m : Nat} (hm : m < bs.length) (hp : PutTo (S0 w0.heap.size) nm T g (m * 4 + 1) bs[m].2 W W') :
    ∃ k' : Kv, k'.tn = w1N nm T bs[m].2.x bs[m].2.l ∧ Sv w0 B v1 (.slice (some ⟨g, 0, none⟩) nb cap) n es (bs.set m (bs[m].1, k')) W' ∧ Fr (fun q => q = g) W W' := by
  subst hnb
  obtain ⟨k', w1, h1, h2, h3, h4⟩ := hp
  have hs := h.below h2
  refine ⟨k', h1, ?_⟩
  rcases h4 with rfl | ⟨rfl, rfl⟩
  · obtain ⟨hg0, cur, hcur⟩ := owns_cells hs.r2 (g := g) rfl
    have hB := hs.hB
    have hBg : B ≠ g := fun e => by omega
    have hg : w0.heap.size ≤ g := by omega
    refine ⟨⟨set3_below hs.low hg _ _, hB, (set3_far hBg _ _).trans hs.box, hs.len, owns_block hs.r1 (fun q hq => set3_far (fun e => by subst e; exact row_ne hs.r2 hs.r1 (by decide) rfl hq) _ _), by rw [List.length_set]; exact owns_setb hs.r2 hm k', fun k hk => tmO_set3 hg hcur (by decide) (hs.te k hk), fun b hb => ?_⟩, (Fr.of_below h2).trans (set3_fr w1 g _ k')⟩
    rcases List.mem_or_eq_of_mem_set hb with h5 | rfl
    · exact tmO_set3 hg hcur (by decide) (hs.tb b h5)
    · exact tmO_set3 hg hcur (by decide) h3
  · have e : (bs[m].1, bs[m].2) = bs[m] := rfl
    rw [e, List.set_getElem_self]
    exact ⟨hs, Fr.of_below h2⟩
theorem bmap_set {bs bs' : List Bk} {m : Nat} (hm : m < bs.length) (hm' : m < bs'.length) {f : Tn → Tn} {k : Kv} (h : bs'.map btn = (bs.take m).map (fun q => (q.1, f q.2.tn)) ++ (bs.drop m).map btn) (hv : bs'[m].1 = bs[m].1) (hk : k.tn = f bs[m].2.tn) : (bs'.set m (bs'[m].1, k)).map btn = (bs.take (m + 1)).map (fun q => (q.1, f q.2.tn)) ++ (bs.drop (m + 1)).map btn := by
  have hl : ((bs.take m).map (fun q => (q.1, f q.2.tn))).length = m := by rw [List.length_map, List.length_take]; omega
  rw [List.map_set, h, List.drop_eq_getElem_cons hm, List.map_cons, List.set_append_right _ _ (by omega), hl, Nat.sub_self, List.set_cons_zero, List.take_succ_eq_append_getElem hm, List.map_append, List.append_assoc, hv]
  unfold btn
  rw [hk]
  rfl
theorem bmap_at {bs bs' : List Bk} {m : Nat} (hm : m < bs.length) {f : Tn → Tn} (h : bs'.map btn = (bs.take m).map (fun q => (q.1, f q.2.tn)) ++ (bs.drop m).map btn) : ∃ hm' : m < bs'.length, (bs'[m]'hm').1 = bs[m].1 ∧ (bs'[m]'hm').2.tn = bs[m].2.tn := by
  have hl : ((bs.take m).map (fun q => (q.1, f q.2.tn))).length = m := by rw [List.length_map, List.length_take]; omega
  have hl2 := congrArg List.length h
  rw [List.length_map, List.length_append, hl, List.length_map, List.length_drop] at hl2
  refine ⟨by omega, ?_⟩
  have := congrArg (fun l => l[m]?) h
  rw [List.getElem?_map, List.getElem?_eq_getElem (by omega), List.getElem?_append_right (by omega), hl, Nat.sub_self, List.drop_eq_getElem_cons hm, List.map_cons, List.getElem?_cons_zero, Option.map_some] at this
  have h2 := Option.some.inj this
  unfold btn at h2
  exact ⟨(Prod.mk.inj h2).1, (Prod.mk.inj h2).2⟩
theorem room_tn {nm : ByteArray} {N : Int} {k q : Kv} (h : k.tn = q.tn) : roomK nm N k = roomK nm N q := by
  have e2 : (k.x, k.l) = (q.x, q.l) := h
  unfold roomK
  rw [(Prod.mk.inj e2).1, (Prod.mk.inj e2).2]
theorem nodes_tn {k q : Kv} (h : k.tn = q.tn) : nodesF k.l = nodesF q.l := by
  have e2 : (k.x, k.l) = (q.x, q.l) := h
  rw [(Prod.mk.inj e2).2]

set_option maxRecDepth 100000 in
set_option maxHeartbeats 4000000 in
theorem bound_any (nm : ByteArray) (T : Tn) (ta : Option Addr) (tc : Nat) {N : Int} (hN : 0 ≤ N ∧ N ≤ 1048577) (Q : Nat) (w0 : World) (B : Nat) (v1 v2 : Value) (n : Nat) (es : List Kv) (bs : List Bk) (W : World) (hS : Sv w0 B v1 v2 n es bs W) (hQ : Box W Q 92 (ptC nm T ta tc N)) (hTT : TmO (S0 w0.heap.size) W T.1 ta tc T.2) (hn : bs.length ≤ 1073741824) (hM : ∀ b ∈ bs, nodesF b.2.l ≤ 1048576) :
    Calls Try.prog 56 #[.pointer (some ⟨B, 1, none⟩), .pointer (some ⟨Q, 0, none⟩)] W fun e W' => e = .returned (.bool (bs.all fun b => roomK nm N b.2)) ∧ Below w0.heap.size w0 W' ∧ ((bs.all fun b => roomK nm N b.2) = true → Fr (fun q => v2.ownBlock = some q) W W' ∧ ∃ bs' : List Bk, bs'.map btn = bs.map (fun b => (b.1, w1T nm T b.2.tn)) ∧ Sv w0 B v1 v2 n es bs' W') := by
  obtain ⟨p1, cap1, rfl, hcap, _, _⟩ := own_any hS.r2
  have HS := hid hS; have HQ := hid hQ; have HTT := hid hTT; have HM := hid hM
  have b0 := hS.box.c 1
  obtain ⟨nb, hnb⟩ : ∃ nb, bs.length = nb := ⟨_, rfl⟩
  rw [hnb] at hn HS b0 hcap ⊢
  have HNB := hid hnb
  clear hS hQ hTT hM hnb
  go_enter Try.func56, Try.ntmps56
  go_wp2_with fail
  go_loopw [11] (fun iv wr => ∃ (j : Nat) (bs' : List Bk), j ≤ nb ∧ iv = .int .i64 j ∧ bs'.length = nb ∧ Sv w0 B v1 (.slice p1 nb cap1) n es bs' wr ∧ Fr (fun q => (Value.slice p1 nb cap1).ownBlock = some q) W wr ∧ bs'.map btn = (bs.take j).map (fun b => (b.1, w1T nm T b.2.tn)) ++ (bs.drop j).map btn ∧ ((bs.take j).all fun b => roomK nm N b.2) = true) (fun iv _ => nb - (intOf iv).toNat)
  case atStart => exact ⟨0, bs, Nat.zero_le _, rfl, HNB.out, HS.out, Fr.refl _ _, by simp, rfl⟩
  case round =>
    obtain ⟨j, bs', hj, rfl, hnb', hs, hfr, hmap, hall⟩ := hrel
    have HS2 := hid hs; have HFR := hid hfr; have HMAP := hid hmap; have HALL := hid hall; have HNB2 := hid hnb'
    by_cases hlt : j < nb
    · obtain ⟨g, rfl⟩ : ∃ g, p1 = some ⟨g, 0, none⟩ := by
        obtain ⟨g, cap, e, _⟩ := own_slice hs.r2 (by omega)
        cases e
        exact ⟨g, rfl⟩
      have hm0 : j < bs.length := by have := HNB.out; omega
      obtain ⟨hm0', ev, e0⟩ := bmap_at hm0 hmap
      have hQ1 : Box wr Q 92 (ptC nm T ta tc N) := (hfr.same Q HQ.out.lt (fun h => row_box HS.out.r2 HQ.out (by decide) h)).trans HQ.out
      have hT1 : TmO (S0 w0.heap.size) wr T.1 ta tc T.2 := tmO_fr HTT.out hfr (fun b o hb ho => by
        have hb' : some g = some b := hb
        cases hb'
        obtain ⟨h1, cur, h2⟩ := owns_cells HS.out.r2 (g := g) rfl
        rw [h2] at ho
        cases ho
        exact S0_not (by have := HS.out.hB; omega) (by decide))
      have b0' := hs.box.c 1
      have hr2 := hs.r2
      rw [hnb'] at hr2
      obtain ⟨c0, c1, c2, c3⟩ := owns_cellb hr2 hm0'
      have hfz := owns_froz hr2
      cases hr0 : roomK nm N bs[j].2
      case false =>
        have HC := hid (putIn_no nm T ta tc hN Q g (j * 4 + 1) bs'[j].2 wr hQ1 (tmO_tm (hs.tb _ (List.getElem_mem hm0'))) c1 c2 c3 ((room_tn e0).trans hr0))
        have HA := hid (all_no (f := fun b : Bk => roomK nm N b.2) hm0 hr0)
        clear hs hfr hmap hall hQ1 hT1 e0 hr2 c0 c1 c2 c3 hfz hnb'
        go_wp2_with (go_at_call 75; refine HC.out.mono ?_; rintro e w3 ⟨rfl, hb3⟩; have HB3 := hid hb3; clear hb3)
        go_ret
        refine ⟨by rw [HA.out] <;> rfl, HS2.out.low.trans (HB3.out.mono HS2.out.low.size), fun h => by rw [HA.out] at h; cases h⟩
      case true =>
        have HC := hid (putIn_yes (S0 w0.heap.size) nm T ta tc hN Q g (j * 4 + 1) bs'[j].2 wr hQ1 (sv_seen _ wr) (hs.tb _ (List.getElem_mem hm0')) hT1 (by rw [nodes_tn e0]; exact HM.out _ (List.getElem_mem hm0)) c1 c2 c3 hfz ((room_tn e0).trans hr0))
        have HE0 := hid e0; have HEV := hid ev; have HR0 := hid hr0
        clear hs hfr hmap hall hQ1 hT1 e0 ev hr0 hr2 c0 c1 c2 c3 hfz hnb'
        go_wp2_with (go_at_call 75; refine HC.out.mono ?_; rintro e w3 ⟨rfl, hp3⟩; have HP3 := hid hp3; clear hp3)
        obtain ⟨k', hk', hs3, hf3⟩ := HS2.out.bind HNB2.out.symm hm0' HP3.out
        have hmp2 := bmap_set hm0 hm0' HMAP.out HEV.out (k := k') (hk'.trans (congrArg (w1T nm T) HE0.out))
        have hne := all_next (f := fun b : Bk => roomK nm N b.2) hm0 HALL.out HR0.out
        have hfr2 : Fr (fun q => (Value.slice (some ⟨g, 0, none⟩) nb cap1).ownBlock = some q) W w3 := HFR.out.trans (hf3.mono (fun q hq => by rw [hq]; rfl))
        have HNE2 := hid hne; have HMP2 := hid hmp2; have HFR2 := hid hfr2; have HS3 := hid hs3
        clear hne hmp2 hfr2 hs3 hf3 hk'
        go_roundw
        case rel => exact ⟨j + 1, _, by omega, by go_num, by rw [List.length_set]; exact HNB2.out, HS3.out, HFR2.out, HMP2.out, HNE2.out⟩
        case measure => simp [intOf]; omega
    · have e1 : j = nb := by omega
      subst e1
      have hel := HNB.out
      rw [← hel, List.take_length] at hmap hall
      rw [List.drop_length, List.map_nil, List.append_nil] at hmap
      have HA := hid hall; have HMP := hid hmap
      clear hs hfr hmap hall hel hnb'
      go_wp2_with fail
      go_ret
      exact ⟨by rw [HA.out] <;> rfl, HS2.out.low, fun _ => ⟨HFR.out, bs', HMP.out, HS2.out⟩⟩
end Go.Proofs.Ytfnfbljijkjkjaa
/- add of the solver. -/
namespace Go.Proofs.Ytfnfbljijkjkjaa
open Go.RowKit Go.Shelf Go.Deep

theorem below_fr {N : Nat} {A : Nat → Prop} {w0 W W' : World} (h : Below N w0 W) (hf : Fr A W W') (hA : ∀ q, A q → N ≤ q) (hN : N ≤ W.heap.size) : Below N w0 W' :=
  h.trans ⟨hf.low.os, hf.low.tape, hf.low.output, hf.low.size, fun k hk => hf.same k (by omega) (fun ha => by have := hA k ha; omega)⟩
theorem Sv.hid1 {w0 : World} {B : Nat} {v1 v2 : Value} {n : Nat} {es : List Kv} {bs : List Bk} {W : World} (h : Sv w0 B v1 v2 n es bs W) {q : Nat} {o : Obj} (hq : v1.ownBlock = some q ∨ q = B) (ho : W.heap[q]? = some o) : w0.heap.size ≤ q ∧ S0 w0.heap.size q o = false := by
  have hB := h.hB
  rcases hq with hq | rfl
  · obtain ⟨h1, cur, h2⟩ := owns_cells h.r1 hq
    rw [h2] at ho
    cases ho
    exact ⟨by omega, S0_not (by omega) (by decide)⟩
  · rw [show W.heap[q]? = _ from h.box] at ho
    cases ho
    exact ⟨hB, S0_not hB (by decide)⟩
theorem Sv.hid2 {w0 : World} {B : Nat} {v1 v2 : Value} {n : Nat} {es : List Kv} {bs : List Bk} {W : World} (h : Sv w0 B v1 v2 n es bs W) {q : Nat} {o : Obj} (hq : v2.ownBlock = some q ∨ q = B) (ho : W.heap[q]? = some o) : w0.heap.size ≤ q ∧ S0 w0.heap.size q o = false := by
  have hB := h.hB
  rcases hq with hq | rfl
  · obtain ⟨h1, cur, h2⟩ := owns_cells h.r2 hq
    rw [h2] at ho
    cases ho
    exact ⟨by omega, S0_not (by omega) (by decide)⟩
  · rw [show W.heap[q]? = _ from h.box] at ho
    cases ho
    exact ⟨hB, S0_not hB (by decide)⟩
theorem Sv.lt1 {w0 : World} {B : Nat} {v1 v2 : Value} {n : Nat} {es : List Kv} {bs : List Bk} {W : World} (h : Sv w0 B v1 v2 n es bs W) {q : Nat} (hq : v1.ownBlock = some q ∨ q = B) : q < W.heap.size := by
  rcases hq with hq | rfl
  · exact (h.r1.lt q hq).2
  · exact h.box.lt
theorem Sv.lt2 {w0 : World} {B : Nat} {v1 v2 : Value} {n : Nat} {es : List Kv} {bs : List Bk} {W : World} (h : Sv w0 B v1 v2 n es bs W) {q : Nat} (hq : v2.ownBlock = some q ∨ q = B) : q < W.heap.size := by
  rcases hq with hq | rfl
  · exact (h.r2.lt q hq).2
  · exact h.box.lt
/-- One bind more. -/
theorem Sv.add {w0 : World} {B : Nat} {v1 v2 v2' : Value} {n : Nat} {es : List Kv} {bs : List Bk} {W W' : World} (h : Sv w0 B v1 v2 n es bs W) (hf : Fr (fun q => v2.ownBlock = some q ∨ q = B) W W') (hb : Box W' B 63 #[v1, v2']) {b : Bk} (hr : W'.ownsRow (B + 1) 33 4 v2' (bs.length + 1) (bdCells bs ++ bdCells [b])) (ht : TmO (S0 w0.heap.size) W b.2.x b.2.a b.2.c b.2.l) : Sv w0 B v1 v2' n es (bs ++ [b]) W' := by
  have hk : ∀ {x : ByteArray × Int} {a : Option Addr} {c : Nat} {l : Fo}, TmO (S0 w0.heap.size) W x a c l → TmO (S0 w0.heap.size) W' x a c l := fun ht => tmO_fr ht hf fun q o hq ho => (h.hid2 hq ho).2
  refine ⟨below_fr h.low hf (fun q hq => (h.hid2 hq (Array.getElem?_eq_getElem (h.lt2 hq))).1) h.low.size, h.hB, hb, h.len, owns_block h.r1 (fun q hq => hf.same q (h.r1.lt q hq).2 ?_), ?_, fun k hk' => hk (h.te k hk'), fun q hq => ?_⟩
  · rintro (h2 | rfl)
    · exact row_ne h.r1 h.r2 (by decide) hq h2
    · exact row_box h.r1 h.box (by decide) hq
  · rw [List.length_append]
    have e : bdCells (bs ++ [b]) = bdCells bs ++ bdCells [b] := by unfold bdCells; rw [List.flatMap_append]
    rw [e]
    exact hr
  · rcases List.mem_append.1 hq with h1 | h1
    · exact hk (h.tb q h1)
    · rw [List.mem_singleton.1 h1]; exact hk ht
set_option maxRecDepth 100000 in
set_option maxHeartbeats 4000000 in
theorem add_any (w0 : World) (B : Nat) (v1 v2 : Value) (n : Nat) (es : List Kv) (bs : List Bk) (w : World) (nm : ByteArray) (k : Kv) (hS : Sv w0 B v1 v2 n es bs w) (ht : TmO (S0 w0.heap.size) w k.x k.a k.c k.l) (hn : bs.length ≤ 1073741824) :
    Calls Try.prog 57 #[.pointer (some ⟨B, 1, none⟩), .agg #[.string nm, .string k.x.1, .int .i64 k.x.2, .slice k.a (lenF k.l) k.c]] w fun e w' => (∃ v, e = .returned v) ∧ ∃ v2', Sv w0 B v1 v2' n es (bs ++ [(nm, k)]) w' := by
  obtain ⟨i0, hi, hz0, hz1, hz2⟩ := info_parts Try.info33
  have HS := hid hS; have HT := hid ht
  obtain ⟨nb, hnb⟩ : ∃ nb, bs.length = nb := ⟨_, rfl⟩
  have hr2 := hS.r2
  rw [hnb] at hr2 hn
  have HR2 := hid hr2; have HNB := hid hnb
  have hb1 := hS.box.over (.cells #[.string nm, .string k.x.1, .int .i64 k.x.2, .slice k.a (lenF k.l) k.c] 33)
  have hX := Box.new w 33 #[.string nm, .string k.x.1, .int .i64 k.x.2, .slice k.a (lenF k.l) k.c]
  have c1 := hb1.c 1
  have f1 := hb1.f 1
  have z0 := hX.c 0; have z1 := hX.c 1; have z2 := hX.c 2; have z3 := hX.c 3
  have HB := hid hb1
  have hlt := hS.box.lt
  have hvb : Hid (v2.ownBlock ≠ some B) := hid (row_box hS.r2 hS.box (by decide))
  clear hb1 hX hS ht hr2 hnb
  go_enter Try.func57, Try.ntmps57
  go_upto_region 1 with fail
  go_region_law (refine step_append_lies _ (by rfl) _ _ 43 (by rfl) (B + 1) 33 i0 _ 4 64 Try.underlying43 hi hz0 hz1 hz2 rfl (by decide) v2 nb (bdCells bs) (by rfl) (owns_below HR2.out ((((Below.refl _ w).alloc (Nat.le_refl _) _).alloc (by simp) _).drew)) ⟨w.heap.size + 1, 0, none⟩ 1 1 (bdCells [(nm, k)]) (by rfl) rfl (World.news_of_block (box_new (by simp) 33 _)) (one_bind nm k.x k.a (lenF k.l) k.c) (by decide) (by unfold maxLen; omega) (by omega) (by simp; omega) _ rfl ?_; intro g3 cap3 w3 hown3 hgrow3 hat3 hlt3; have hb3 : Box w3 B 63 #[v1, v2] := (hgrow3.block B (by show B < _; simp; omega) (fun e => hvb.out e.symm)).trans (HB.out.over (.cells #[.string nm, .string k.x.1, .int .i64 k.x.2, .slice k.a (lenF k.l) k.c] 33)); have HB3 := hid hb3; have v1' := hb3.c 1; have e1 := hb3.f 1; have HO3 := hid hown3; have HG3 := hid hgrow3; clear hown3 hgrow3 hat3 hb3)
  all_goals
    have hF : Fr (fun q => v2.ownBlock = some q ∨ q = B) w w3 := (Fr.of_below (((Below.refl _ w).alloc (Nat.le_refl _) _).alloc (by simp) _).drew).trans ((fr_grown HG3.out).mono (fun q hq => .inl hq))
    refine bodyPost_end (results_none rfl _ _ _) rfl ?_
    have hq3 : B + 1 ≤ g3 := (owns_cells (g := g3) HO3.out rfl).1
    have hne : g3 ≠ B := by omega
    refine ⟨⟨_, rfl⟩, .slice (some ⟨g3, 0, none⟩) (nb + 1) cap3, HS.out.add (fr_set1 (A := fun q => v2.ownBlock = some q ∨ q = B) hF (.inr rfl) 1 _) (HB3.out.set 1 _) ?_ HT.out⟩
    rw [HNB.out]
    exact owns_block HO3.out (fun g hg => by cases hg; exact Below.heap_setCell _ _ _ _ hne)
end Go.Proofs.Ytfnfbljijkjkjaa
/- take of the solver. -/
namespace Go.Proofs.Ytfnfbljijkjkjaa
open Go.RowKit Go.Shelf Go.Deep

theorem owns_cut {W : World} {base e z g m cap : Nat} {xs ys : List Value} (h : W.ownsRow base e z (.slice (some ⟨g, 0, none⟩) (m + 1) cap) (m + 1) (xs ++ ys)) (hx : xs.length = m * z) : W.ownsRow base e z (.slice (some ⟨g, 0, none⟩) m cap) m xs := by
  refine ⟨hx, ?_⟩
  rcases h.2 with ⟨h1, _⟩ | ⟨g', cap', cur, h1, h2, h3, h4, h5, h6, h7⟩
  · cases h1
  · cases h1
    refine .inr ⟨g, cap, cur, rfl, h2, h3, by omega, h5, h6, ?_⟩
    have := congrArg (List.take (m * z)) h7
    rw [List.take_take, Nat.min_eq_left (by rw [Nat.add_mul]; omega), List.take_append_of_le_length (by omega)] at this
    rw [this, List.take_of_length_le (by omega)]
/-- The first equation is taken out. -/
theorem Sv.take {w0 : World} {B : Nat} {v2 : Value} {m g cap : Nat} {es : List Kv} {k1 k2 : Kv} {bs : List Bk} {W W' : World} (h : Sv w0 B (.slice (some ⟨g, 0, none⟩) (m + 1) cap) v2 (m + 1) (es ++ [k1, k2]) bs W) (hf : Fr (fun q => q = B) W W') (hb : Box W' B 63 #[.slice (some ⟨g, 0, none⟩) m cap, v2]) : Sv w0 B (.slice (some ⟨g, 0, none⟩) m cap) v2 m es bs W' := by
  have hk : ∀ {x : ByteArray × Int} {a : Option Addr} {c : Nat} {l : Fo}, TmO (S0 w0.heap.size) W x a c l → TmO (S0 w0.heap.size) W' x a c l := fun ht => tmO_fr ht hf fun q o hq ho => (h.hid1 (.inr hq) ho).2
  have hl : es.length = 2 * m := by have := h.len; rw [List.length_append] at this; simp only [List.length_cons, List.length_nil] at this; omega
  have hr1 : W.ownsRow (B + 1) 28 6 (.slice (some ⟨g, 0, none⟩) m cap) m (kvCells es) := by
    have := h.r1
    rw [kvCells_app] at this
    exact owns_cut this (by rw [kvCells_len]; omega)
  refine ⟨below_fr h.low hf (fun q hq => by rw [hq]; exact h.hB) h.low.size, h.hB, hb, hl, owns_block hr1 (fun q hq => hf.same q (hr1.lt q hq).2 (fun e => by have := (hr1.lt q hq).1; omega)), owns_block h.r2 (fun q hq => hf.same q (h.r2.lt q hq).2 (fun e => by have := (h.r2.lt q hq).1; omega)), fun k hk' => hk (h.te k (List.mem_append_left _ hk')), fun q hq => hk (h.tb q hq)⟩
set_option maxRecDepth 100000 in
set_option maxHeartbeats 2000000 in
theorem takeS_any (w0 : World) (B : Nat) (v1 v2 : Value) (m : Nat) (es : List Kv) (k1 k2 : Kv) (bs : List Bk) (w : World) (hS : Sv w0 B v1 v2 (m + 1) (es ++ [k1, k2]) bs w) (hm : m ≤ 1073741824) :
    Calls Try.prog 32 #[.pointer (some ⟨B, 0, none⟩)] w fun e w' => e = .returned (.tuple #[.agg #[.string k1.x.1, .int .i64 k1.x.2, .slice k1.a (lenF k1.l) k1.c, .string k2.x.1, .int .i64 k2.x.2, .slice k2.a (lenF k2.l) k2.c], .bool true]) ∧ (∃ v1', Sv w0 B v1' v2 m es bs w') ∧ Fr (fun q => q = B) w w' := by
  obtain ⟨g, cap, rfl, hg1, hg2, hg3⟩ := own_slice hS.r1 (by omega)
  have hl : es.length = 2 * m := by have := hS.len; rw [List.length_append] at this; simp only [List.length_cons, List.length_nil] at this; omega
  have c0 := hS.box.c 0
  have f0 := hS.box.f 0
  have e0 := owns_cellk hS.r1 (m := 2 * m) (by simp only [List.length_append, List.length_cons, List.length_nil]; omega)
  have e1 := owns_cellk hS.r1 (m := 2 * m + 1) (by simp only [List.length_append, List.length_cons, List.length_nil]; omega)
  have g0 : (es ++ [k1, k2])[2 * m]'(by simp only [List.length_append, List.length_cons, List.length_nil]; omega) = k1 := by rw [List.getElem_append_right (by omega)]; simp [hl]
  have g1 : (es ++ [k1, k2])[2 * m + 1]'(by simp only [List.length_append, List.length_cons, List.length_nil]; omega) = k2 := by rw [List.getElem_append_right (by omega)]; simp [hl]
  rw [g0, show 2 * m * 3 = m * 6 by omega] at e0
  rw [g1, show (2 * m + 1) * 3 = m * 6 + 3 by omega, show m * 6 + 3 + 1 = m * 6 + 4 by omega, show m * 6 + 3 + 2 = m * 6 + 5 by omega] at e1
  obtain ⟨h0, h1, h2⟩ := e0
  obtain ⟨h3, h4, h5⟩ := e1
  have HS := hid hS
  have hlt := hS.box.lt
  have hBg : B ≠ g := by omega
  have hk0 : (0 : Int) ≤ (m : Int) := by omega
  clear hS g0 g1
  go_enter Try.func32, Try.ntmps32
  go_wp2_with fail
  have hSb : Box (w.setCell ⟨B, 0, none⟩ (.slice (some ⟨g, 0, none⟩) m cap)) B 63 #[.slice (some ⟨g, 0, none⟩) m cap, v2] := HS.out.box.set 0 _
  have hz : (w.setCell ⟨B, 0, none⟩ (.slice (some ⟨g, 0, none⟩) m cap)).heap.size = w.heap.size := by simp
  have hF : Fr (fun q => q = B) w (w.setCell ⟨B, 0, none⟩ (.slice (some ⟨g, 0, none⟩) m cap)) := fr_set1 (A := fun q => q = B) (Fr.refl _ w) rfl 0 _
  refine ret_take (p := 2) (u := 3) (B := w.heap.size) (cs := #[.string k1.x.1, .int .i64 k1.x.2, .slice k1.a (lenF k1.l) k1.c, .string k2.x.1, .int .i64 k2.x.2, .slice k2.a (lenF k2.l) k2.c]) rfl rfl rfl ((box_new hz 28 _).over _) rfl ?_
  have hF2 := fr_alloc (fr_alloc hF (.cells #[.string k1.x.1, .int .i64 k1.x.2, .slice k1.a (lenF k1.l) k1.c, .string k2.x.1, .int .i64 k2.x.2, .slice k2.a (lenF k2.l) k2.c] 28)) (.cells #[.string k1.x.1, .int .i64 k1.x.2, .slice k1.a (lenF k1.l) k1.c, .string k2.x.1, .int .i64 k2.x.2, .slice k2.a (lenF k2.l) k2.c] 28)
  exact ⟨rfl, ⟨_, HS.out.take hF2 ((hSb.over _).over _)⟩, hF2⟩
end Go.Proofs.Ytfnfbljijkjkjaa
/- lay of the solver: what Backward hands out of equations; how the solver stays. -/
namespace Go.Proofs.Ytfnfbljijkjkjaa
open Go.RowKit Go.Shelf Go.Deep

attribute [local go_sem] Oper.semAt_some

abbrev Eq2 := Kv × Kv
def flatK (P : List Eq2) : List Kv := P.flatMap fun p => [p.1, p.2]
theorem flatK_len (P : List Eq2) : (flatK P).length = 2 * P.length := by
  induction P with
  | nil => rfl
  | cons p r ih => simp only [flatK, List.flatMap_cons, List.length_append, List.length_cons, List.length_nil] at ih ⊢; omega
theorem flatK_app (P R : List Eq2) : flatK (P ++ R) = flatK P ++ flatK R := by unfold flatK; rw [List.flatMap_append]
theorem flatK_at : ∀ (P : List Eq2) (i : Nat) (h : i < P.length), (flatK P)[2 * i]? = some P[i].1 ∧ (flatK P)[2 * i + 1]? = some P[i].2
  | [], i, h => absurd h (by simp)
  | p :: r, 0, _ => ⟨rfl, rfl⟩
  | p :: r, i + 1, h => by
    have ih := flatK_at r i (by simpa using h)
    have e : flatK (p :: r) = p.1 :: p.2 :: flatK r := rfl
    rw [e, show 2 * (i + 1) = 2 * i + 1 + 1 by omega, show 2 * i + 1 + 1 + 1 = (2 * i + 1) + 1 + 1 by omega]
    simp only [List.getElem?_cons_succ, List.getElem_cons_succ]
    exact ih
def eqA (p : Eq2) : Array Value := #[.string p.1.x.1, .int .i64 p.1.x.2, .slice p.1.a (lenF p.1.l) p.1.c, .string p.2.x.1, .int .i64 p.2.x.2, .slice p.2.a (lenF p.2.l) p.2.c]
/-- Equations in a slice, wherever it lies. -/
def EqsAt (W : World) (q : Option Addr) (P : List Eq2) : Prop := ∀ i (h : i < P.length), ∃ g o, q = some ⟨g, o, none⟩ ∧ W.cell? ⟨g, o + i * 6, none⟩ = some (.string P[i].1.x.1) ∧ W.cell? ⟨g, o + i * 6 + 1, none⟩ = some (.int .i64 P[i].1.x.2) ∧ W.cell? ⟨g, o + i * 6 + 2, none⟩ = some (.slice P[i].1.a (lenF P[i].1.l) P[i].1.c) ∧ W.cell? ⟨g, o + i * 6 + 3, none⟩ = some (.string P[i].2.x.1) ∧ W.cell? ⟨g, o + i * 6 + 4, none⟩ = some (.int .i64 P[i].2.x.2) ∧ W.cell? ⟨g, o + i * 6 + 5, none⟩ = some (.slice P[i].2.a (lenF P[i].2.l) P[i].2.c)
theorem EqsAt.keep {W W' : World} {q : Option Addr} {P : List Eq2} (h : EqsAt W q P) (hk : ∀ g o, q = some ⟨g, o, none⟩ → g < W.heap.size → W'.heap[g]? = W.heap[g]?) : EqsAt W' q P := fun i hi => by
  obtain ⟨g, o, rfl, h0, h1, h2, h3, h4, h5⟩ := h i hi
  have hb := hk g o rfl (World.block_lt_of_cell? W _ h0)
  have hc : ∀ p v, W.cell? ⟨g, p, none⟩ = some v → W'.cell? ⟨g, p, none⟩ = some v := fun p v hv => (World.cell?_of_block (a := ⟨g, p, none⟩) hb).trans hv
  exact ⟨g, o, rfl, hc _ _ h0, hc _ _ h1, hc _ _ h2, hc _ _ h3, hc _ _ h4, hc _ _ h5⟩
set_option maxRecDepth 100000 in
set_option maxHeartbeats 4000000 in
theorem back_all (m : Nat) (hm : 1 ≤ m) (l Bn : Nat) (q : Option Addr) (d : Nat) (P : List Eq2) (hn : P.length ≤ 1073741824) (J : Nat → World → Prop)
    (hrow : ∀ k W, k < P.length → J k W → Box W Bn 34 #[.slice q P.length d] ∧ EqsAt W q P)
    (hY : ∀ k W (hk : k < P.length), J k W → YieldAt Fence.wide (m - 1) Try.prog l #[.int .i64 ((P.length - 1 - k : Nat) : Int), .agg (eqA (P[P.length - 1 - k]'(by omega)))] W fun e W' => e = .returned (.bool true) ∧ J (k + 1) W')
    (W : World) (hBn : Box W Bn 34 #[.slice q P.length d]) (h0 : J 0 W) :
    CallsIn Fence.wide m Try.prog 70 #[.func (.yield l) #[] #[], .pointer (some ⟨Bn, 0, none⟩)] W fun e W' => (∃ v, e = .returned v) ∧ J P.length W' := by
  have HR := hid hrow; have HY := hid hY; have H0 := hid h0
  have c0 := hBn.c 0
  obtain ⟨n, hnn⟩ : ∃ n, P.length = n := ⟨_, rfl⟩
  have HN := hid hnn
  rw [hnn] at hn c0 ⊢
  clear hrow hY h0 hBn hnn
  refine callsIn_of_wp Try.func70 rfl trivial ?_ rfl
  simp only [Try.ntmps70, List.size_toArray, List.length_cons, List.length_nil, Nat.reduceAdd, Nat.reduceSub, Array.replicate_succ, Array.replicate_zero, List.push_toArray, List.append_toArray, List.nil_append, List.cons_append]
  gi_wp2
  gi_loopw [3] (fun p wr => ∃ k : Nat, k ≤ n ∧ p = .int .i64 ((n : Int) - 1 - k) ∧ J k wr) (fun p _ => (intOf p + 1).toNat)
  case atStart => exact ⟨0, Nat.zero_le _, by simp, H0.out⟩
  case round =>
    obtain ⟨k, hk, rfl, hj⟩ := hrel
    have HJ := hid hj
    clear hj
    by_cases hlt : k < n
    · have hkP : k < P.length := by have := HN.out; omega
      obtain ⟨hbx, hes⟩ := HR.out k wr hkP HJ.out
      have cb := hbx.c 0
      obtain ⟨g, o, rfl, q0, q1, q2, q3, q4, q5⟩ := hes (P.length - 1 - k) (by omega)
      obtain ⟨fn, tmps, assign, body, hy, hR⟩ := HY.out k wr hkP HJ.out
      have HRR := hid hR
      have he : (n : Int) - 1 - k = ((n - 1 - k : Nat) : Int) := by omega
      rw [he]
      generalize hpp : P[P.length - 1 - k]'(by omega) = pp at q0 q1 q2 q3 q4 q5 hy
      have hnn := HN.out
      rw [hnn] at q0 q1 q2 q3 q4 q5 hy cb
      obtain ⟨i, hi⟩ : ∃ i, n - 1 - k = i := ⟨_, rfl⟩
      rw [hi] at q0 q1 q2 q3 q4 q5 hy he ⊢
      have hin : (i : Int) < (n : Int) := by omega
      have hi0 : (0 : Int) ≤ (i : Int) := by omega
      have HI := hid hi
      unfold eqA at hy
      clear hi he hbx hR hes hpp hnn
      gi_wp2
      refine HRR.out.mono ?_
      rintro e W3 ⟨rfl, hJ3⟩
      gi_wp2
      go_roundw
      case rel => exact ⟨k + 1, by omega, by have := HI.out; simp; omega, hJ3⟩
      case measure => simp [intOf]
    · obtain rfl : k = n := by omega
      rw [show (k : Int) - 1 - k = -1 by omega]
      gi_wp2
      refine bodyPost_end (results_none rfl _ _ _) rfl ?_
      exact ⟨⟨_, rfl⟩, HJ.out⟩
/-- The solver stays where other blocks are written. -/
theorem Sv.keep {w0 : World} {B : Nat} {v1 v2 : Value} {n : Nat} {es : List Kv} {bs : List Bk} {W W' : World} (h : Sv w0 B v1 v2 n es bs W) {A : Nat → Prop} (hf : Fr A W W') (hA : ∀ q o, A q → W.heap[q]? = some o → S0 w0.heap.size q o = false) (hAN : ∀ q, A q → w0.heap.size ≤ q) (hB : ¬ A B) (h1 : ∀ q, v1.ownBlock = some q → ¬ A q) (h2 : ∀ q, v2.ownBlock = some q → ¬ A q) : Sv w0 B v1 v2 n es bs W' :=
  ⟨below_fr h.low hf hAN h.low.size, h.hB, (hf.same B h.box.lt hB).trans h.box, h.len, owns_block h.r1 (fun q hq => hf.same q (h.r1.lt q hq).2 (h1 q hq)), owns_block h.r2 (fun q hq => hf.same q (h.r2.lt q hq).2 (h2 q hq)), fun k hk => tmO_fr (h.te k hk) hf hA, fun b hb => tmO_fr (h.tb b hb) hf hA⟩
/-- One equation more. -/
theorem Sv.lay {w0 : World} {B : Nat} {v1 v2 v1' : Value} {n : Nat} {es : List Kv} {bs : List Bk} {W W' : World} (h : Sv w0 B v1 v2 n es bs W) (hf : Fr (fun q => v1.ownBlock = some q ∨ q = B) W W') (hb : Box W' B 63 #[v1', v2]) {k1 k2 : Kv} (hr : W'.ownsRow (B + 1) 28 6 v1' (n + 1) (kvCells es ++ kvCells [k1, k2])) (t1 : TmO (S0 w0.heap.size) W k1.x k1.a k1.c k1.l) (t2 : TmO (S0 w0.heap.size) W k2.x k2.a k2.c k2.l) : Sv w0 B v1' v2 (n + 1) (es ++ [k1, k2]) bs W' := by
  have hk : ∀ {x : ByteArray × Int} {a : Option Addr} {c : Nat} {l : Fo}, TmO (S0 w0.heap.size) W x a c l → TmO (S0 w0.heap.size) W' x a c l := fun ht => tmO_fr ht hf fun q o hq ho => (h.hid1 hq ho).2
  have hl := h.len
  refine ⟨below_fr h.low hf (fun q hq => (h.hid1 hq (Array.getElem?_eq_getElem (h.lt1 hq))).1) h.low.size, h.hB, hb, by rw [List.length_append]; simp only [List.length_cons, List.length_nil]; omega, by rw [kvCells_app]; exact hr, owns_block h.r2 (fun q hq => hf.same q (h.r2.lt q hq).2 ?_), fun k hk' => ?_, fun q hq => hk (h.tb q hq)⟩
  · rintro (h2 | rfl)
    · exact row_ne h.r2 h.r1 (by decide) hq h2
    · exact row_box h.r2 h.box (by decide) hq
  · rcases List.mem_append.1 hk' with h1 | h1
    · exact hk (h.te k h1)
    · simp only [List.mem_cons, List.not_mem_nil, or_false] at h1
      rcases h1 with rfl | rfl
      · exact hk t1
      · exact hk t2
end Go.Proofs.Ytfnfbljijkjkjaa
/- lay of the solver, whole. -/
namespace Go.Proofs.Ytfnfbljijkjkjaa
open Go.RowKit Go.Shelf Go.Deep

attribute [local go_sem] Oper.semAt_some

/-- What lay keeps from its start on: its boxes, the solver, what is laid already. -/
structure LyS (w0 w : World) (B : Nat) (v1 v2 : Value) (n : Nat) (es : List Kv) (bs : List Bk) (P : List Eq2) (q : Option Addr) (d P1 P2 D L : Nat) (k : Nat) (W : World) : Prop where
  low : Fr (fun b => v1.ownBlock = some b ∨ b = B) w W
  p1 : Box W P1 80 #[.pointer (some ⟨B, 0, none⟩)]
  p2 : Box W P2 34 #[.slice q P.length d]
  df : W.heap[D]? = some (.deferred (some []))
  sv : ∃ v1', (v1'.ownBlock = v1.ownBlock ∨ ∀ g, v1'.ownBlock = some g → L < g) ∧ Sv w0 B v1' v2 (n + k) (es ++ flatK (P.reverse.take k)) bs W
theorem fr_putO (W : World) (L : Nat) (o : Obj) : Fr (fun b => b = L) W (W.putObj L o) := ⟨below_putObj _ (Nat.zero_le _) _, fun _ _ hb => World.putObj_heap_other hb⟩
theorem LyS.put {w0 w : World} {B : Nat} {v1 v2 : Value} {n : Nat} {es : List Kv} {bs : List Bk} {P : List Eq2} {q : Option Addr} {d P1 P2 D L k : Nat} {W : World} (h : LyS w0 w B v1 v2 n es bs P q d P1 P2 D L k W) {r : Loop} (hL : W.heap[L]? = some (.loop r)) (hw : w.heap.size ≤ L) (hw0 : w0.heap.size ≤ L) (h1 : P1 ≠ L) (h2 : P2 ≠ L) (h3 : D ≠ L) (h4 : B ≠ L) (h5 : v1.ownBlock ≠ some L) (h6 : v2.ownBlock ≠ some L) (o : Obj) : LyS w0 w B v1 v2 n es bs P q d P1 P2 D L k (W.putObj L o) := by
  obtain ⟨v1', e1, e2⟩ := h.sv
  refine ⟨fr_putl h.low hw o, (World.putObj_heap_other h1).trans h.p1, (World.putObj_heap_other h2).trans h.p2, (World.putObj_heap_other h3).trans h.df, v1', e1, e2.keep (fr_putO W L o) (fun b ob hb ho => ?_) (fun b hb => by omega) h4 (fun b hb e => ?_) (fun b hb e => h6 (by rw [hb, e]))⟩
  · subst hb
    rw [hL] at ho
    cases ho
    unfold S0
    rw [decide_eq_false (by omega)]
    rfl
  · subst e
    rcases e1 with e1 | e1
    · exact h5 (by rw [← e1, hb])
    · exact Nat.lt_irrefl _ (e1 b hb)
set_option maxRecDepth 100000 in
set_option maxHeartbeats 8000000 in
theorem lay_any (w0 : World) (B : Nat) (v1 v2 : Value) (n : Nat) (es : List Kv) (bs : List Bk) (w : World) (P : List Eq2) (q : Option Addr) (d : Nat) (hS0 : Sv w0 B v1 v2 n es bs w) (hP : ∀ p ∈ P, TmO (S0 w0.heap.size) w p.1.x p.1.a p.1.c p.1.l ∧ TmO (S0 w0.heap.size) w p.2.x p.2.a p.2.c p.2.l) (hq : EqsAt w q P) (hg : 0 < P.length → ∀ g o, q = some ⟨g, o, none⟩ → g ≠ B ∧ v1.ownBlock ≠ some g) (hn : n + P.length ≤ 1073741824) :
    Calls Try.prog 31 #[.pointer (some ⟨B, 0, none⟩), .slice q P.length d] w fun e w' => (∃ v, e = .returned v) ∧ Fr (fun b => v1.ownBlock = some b ∨ b = B) w w' ∧ ∃ v1', Sv w0 B v1' v2 (n + P.length) (es ++ flatK P.reverse) bs w' := by
  refine (callsIn_wide (n := 6)).1 ?_
  have h1 : 1 ≤ 6 := by omega
  have HS := hid hS0; have HP := hid hP; have HEQ := hid hq; have HGG := hid hg
  have hlt := hS0.box.lt
  have hwB := hS0.hB
  have hw0 := hS0.low.size
  have hv1 : Hid (∀ g, v1.ownBlock = some g → g < w.heap.size) := hid fun g hg => (hS0.r1.lt g hg).2
  have hv2 : Hid (∀ g, v2.ownBlock = some g → g < w.heap.size) := hid fun g hg => (hS0.r2.lt g hg).2
  clear hS0 hP hq hg
  refine callsIn_of_wp_marks Try.func31 rfl trivial ?_ rfl
  simp only [Try.ntmps31, List.size_toArray, List.length_cons, List.length_nil, Nat.reduceAdd, Nat.reduceSub, Array.replicate_succ, Array.replicate_zero, List.push_toArray, List.append_toArray, List.nil_append, List.cons_append]
  gi_wp2_with fail
  refine ⟨trivial, ?_⟩
  refine (callsIn_wide.2 (backward_any _ _ _ _)).mono ?_
  rintro e w' ⟨rfl, rfl⟩
  gi_wp2
  obtain ⟨W0, hW0⟩ : ∃ W0, (w.alloc (.cells #[.pointer (some ⟨B, 0, none⟩)] 80)).alloc (.cells #[.slice q P.length d] 34) = W0 := ⟨_, rfl⟩
  obtain ⟨t1, t2, t3⟩ := two_new w #[.pointer (some ⟨B, 0, none⟩)] 80 #[.slice q P.length d] 34
  have hz0 : W0.heap.size = w.heap.size + 2 := by rw [← hW0]; simp
  rw [hW0] at t1 t2 t3 ⊢
  have HT1 := hid t1; have HT2 := hid t2; have HT3 := hid t3; have HZ0 := hid hz0
  clear hW0 t1 t2 t3
  refine range_law rfl h1 (gf := 70) (lb := #[.pointer (some ⟨w.heap.size + 1, 0, none⟩)]) rfl trivial (enters_of Try.func70 (by kernel_rfl) rfl) ?_
  intro r hr1 hr2 hr3 hr4 hr5 hr6 hr7
  have hbb : Below W0.heap.size W0 ((W0.alloc (.deferred (some []))).alloc (.loop r)) := ((Below.refl _ W0).alloc (Nat.le_refl _) _).alloc (by simp) _
  have hwb := HT3.out.trans (hbb.mono HT3.out.size)
  have hK0 : LyS w0 w B v1 v2 n es bs P q d w.heap.size (w.heap.size + 1) W0.heap.size (W0.heap.size + 1) 0 ((W0.alloc (.deferred (some []))).alloc (.loop r)) :=
    ⟨Fr.of_below hwb, HT1.out.below hbb, HT2.out.below hbb, (Below.heap_alloc _ _ _ (by simp)).trans (World.alloc_heap_new W0 _), v1, .inl rfl, by rw [List.take_zero, show es ++ flatK [] = es from List.append_nil es, Nat.add_zero]; exact HS.out.below hwb⟩
  have hL0 : ((W0.alloc (.deferred (some []))).alloc (.loop r)).heap[W0.heap.size + 1]? = some (.loop r) := by
    have := World.alloc_heap_new (W0.alloc (.deferred (some []))) (.loop r)
    rwa [World.size_alloc] at this
  refine (back_all (6 - 1) (by omega) (W0.heap.size + 1) (w.heap.size + 1) q d P (by omega)
    (fun k W => LyS w0 w B v1 v2 n es bs P q d w.heap.size (w.heap.size + 1) W0.heap.size (W0.heap.size + 1) k W ∧ W.heap[W0.heap.size + 1]? = some (.loop r))
    (fun k W hk h => ⟨h.1.p2, HEQ.out.keep (fun g o e hgl => h.1.low.same g hgl (fun ha => by
      have := HGG.out (by omega) g o e
      rcases ha with ha | ha
      · exact this.2 ha
      · exact this.1 ha))⟩) ?_ _ (HT2.out.below hbb) ⟨hK0, hL0⟩).mono ?_
  · rintro k W hk ⟨hKW, hL⟩
    refine yield_by hr5 hr6 hr3 hr4 hL hr1 rfl hr7 ?_
    have hpm : P[P.length - 1 - k]'(by omega) ∈ P := List.getElem_mem _
    have htk : P.reverse.take (k + 1) = P.reverse.take k ++ [P[P.length - 1 - k]'(by omega)] := by
      rw [List.take_succ_eq_append_getElem (by rw [List.length_reverse]; exact hk), List.getElem_reverse]
    generalize P[P.length - 1 - k]'(by omega) = p at hpm htk ⊢
    have HPM := hid (HP.out p hpm); have HTK := hid htk
    have HKW := hid hKW; have HL := hid hL
    obtain ⟨v1', hv', hsv⟩ := hKW.sv
    have HV' := hid hv'; have HSV := hid hsv
    obtain ⟨nk, hnk⟩ : ∃ nk, n + k = nk := ⟨_, rfl⟩
    obtain ⟨ek, hek⟩ : ∃ ek, es ++ flatK (P.reverse.take k) = ek := ⟨_, rfl⟩
    have hnk2 : nk ≤ 1073741824 := by omega
    rw [hnk, hek] at HSV
    have HNK := hid hnk; have HEK := hid hek
    clear hKW hL hr3 hr4 hr5 hr6 hK0 hL0 hbb hwb hpm htk hv' hsv hnk hek
    unfold eqA
    simp only [List.zip_toArray, List.zip_cons_cons, List.zip_nil_right, List.foldl_toArray, List.foldl_cons, List.foldl_nil, List.setIfInBounds_toArray, List.set_cons_succ, List.set_cons_zero]
    gi_wp2
    have hz := HZ0.out
    have hLW : W0.heap.size + 1 < W.heap.size := (Array.getElem?_eq_some_iff.1 HL.out).1
    have hbE := alloc_below0 W (.cells #[.string p.1.x.1, .int .i64 p.1.x.2, .slice p.1.a (lenF p.1.l) p.1.c, .string p.2.x.1, .int .i64 p.2.x.2, .slice p.2.a (lenF p.2.l) p.2.c] 28)
    have hxE := Box.new W 28 #[.string p.1.x.1, .int .i64 p.1.x.2, .slice p.1.a (lenF p.1.l) p.1.c, .string p.2.x.1, .int .i64 p.2.x.2, .slice p.2.a (lenF p.2.l) p.2.c]
    have hzE : (W.alloc (.cells #[.string p.1.x.1, .int .i64 p.1.x.2, .slice p.1.a (lenF p.1.l) p.1.c, .string p.2.x.1, .int .i64 p.2.x.2, .slice p.2.a (lenF p.2.l) p.2.c] 28)).heap.size = W.heap.size + 1 := by simp
    refine ⟨(hbE.block _ hLW).trans HL.out, ?_⟩
    have HE0 := hid hxE; have HBE := hid hbE; have HZE := hid hzE
    clear hbE hxE hzE
    generalize W.alloc (.cells #[.string p.1.x.1, .int .i64 p.1.x.2, .slice p.1.a (lenF p.1.l) p.1.c, .string p.2.x.1, .int .i64 p.2.x.2, .slice p.2.a (lenF p.2.l) p.2.c] 28) = EW at HE0 HBE HZE ⊢
    have hoth : ∀ b, b ≠ W0.heap.size + 1 → (EW.putObj (W0.heap.size + 1) (.loop { r with state := .busy })).heap[b]? = EW.heap[b]? := fun b hb => World.putObj_heap_other hb
    have HL2 : Hid ((EW.putObj (W0.heap.size + 1) (.loop { r with state := .busy })).heap[W0.heap.size + 1]? = some (.loop { r with state := .busy })) := hid (World.putObj_heap_same (by have := HZE.out; omega))
    have hvL : v1'.ownBlock ≠ some (W0.heap.size + 1) := fun e => by
      rcases HV'.out with h | h
      · have := hv1.out _ (h ▸ e); omega
      · have := h _ e; omega
    have hv2L : v2.ownBlock ≠ some (W0.heap.size + 1) := fun e => by have := hv2.out _ e; omega
    have hLE : EW.heap[W0.heap.size + 1]? = some (.loop r) := (HBE.out.block _ hLW).trans HL.out
    have hsv2 : Sv w0 B v1' v2 nk ek bs (EW.putObj (W0.heap.size + 1) (.loop { r with state := .busy })) := (HSV.out.below HBE.out).keep (fr_putO EW (W0.heap.size + 1) _) (fun b ob hb ho => by
        subst hb
        rw [hLE] at ho
        cases ho
        unfold S0
        rw [decide_eq_false (by omega)]
        rfl) (fun b hb => by omega) (by omega) (fun b hb e => hvL (by rw [hb, e])) (fun b hb e => hv2L (by rw [hb, e]))
    have hlow2 : Fr (fun b => v1.ownBlock = some b ∨ b = B) w (EW.putObj (W0.heap.size + 1) (.loop { r with state := .busy })) := fr_putl (HKW.out.low.trans (Fr.of_below HBE.out)) (by omega) _
    have HOTH := hid hoth
    have hWsz : W.heap.size < (EW.putObj (W0.heap.size + 1) (.loop { r with state := .busy })).heap.size := by
      have := (fr_putO EW (W0.heap.size + 1) (.loop { r with state := .busy })).low.size
      have := HZE.out
      omega
    have HWS := hid hWsz
    have HSV2 := hid hsv2; have HLOW2 := hid hlow2
    clear hoth hsv2 hlow2 hLE hWsz
    generalize EW.putObj (W0.heap.size + 1) (.loop { r with state := .busy }) = W2 at HOTH HL2 HSV2 HLOW2 HWS ⊢
    have HTM : Hid (∀ {x : ByteArray × Int} {a : Option Addr} {c : Nat} {l : Fo}, TmO (S0 w0.heap.size) w x a c l → TmO (S0 w0.heap.size) W2 x a c l) := hid fun ht => tmO_fr ht HLOW2.out (fun b ob hb ho => (HS.out.hid1 hb ho).2)
    have HP1 : Hid (Box W2 w.heap.size 80 #[.pointer (some ⟨B, 0, none⟩)]) := hid ((HOTH.out _ (by omega)).trans (HKW.out.p1.below HBE.out))
    have HP2 : Hid (Box W2 (w.heap.size + 1) 34 #[.slice q P.length d]) := hid ((HOTH.out _ (by omega)).trans (HKW.out.p2.below HBE.out))
    have HDF : Hid (W2.heap[W0.heap.size]? = some (.deferred (some []))) := hid ((HOTH.out _ (by omega)).trans ((HBE.out.block _ (by omega)).trans HKW.out.df))
    have HE2 : Hid (Box W2 W.heap.size 28 #[.string p.1.x.1, .int .i64 p.1.x.2, .slice p.1.a (lenF p.1.l) p.1.c, .string p.2.x.1, .int .i64 p.2.x.2, .slice p.2.a (lenF p.2.l) p.2.c]) := hid ((HOTH.out _ (by omega)).trans HE0.out)
    have HB2 : Hid (Box W2 B 63 #[v1', v2]) := hid HSV2.out.box
    have HRW : Hid (W2.ownsRow (B + 1) 28 6 v1' nk (kvCells ek)) := hid HSV2.out.r1
    have HNB : Hid (¬ v1'.ownBlock = some B) := hid (row_box HSV2.out.r1 HSV2.out.box (by decide))
    have hneW : ∀ g, v1'.ownBlock = some g → g ≠ w.heap.size ∧ g ≠ W.heap.size ∧ g ≠ w.heap.size + 1 ∧ g ≠ W0.heap.size ∧ g ≠ W0.heap.size + 1 := fun g e => by
      have hgW : g < W.heap.size := (HSV.out.r1.lt g e).2
      rcases HV'.out with h | h
      · have := hv1.out g (h ▸ e); omega
      · have := h g e; omega
    have HNW := hid hneW
    have HPL : Hid (w.heap.size < W2.heap.size ∧ ¬ v1'.ownBlock = some w.heap.size ∧ W.heap.size < W2.heap.size ∧ ¬ v1'.ownBlock = some W.heap.size) := hid ⟨HP1.out.lt, fun e => (hneW _ e).1 rfl, HWS.out, fun e => (hneW _ e).2.1 rfl⟩
    have hB2 : B < W2.heap.size := HB2.out.lt
    clear HKW HL HSV hneW
    have HSS : Hid (∀ V : World, V.heap[w.heap.size]? = W2.heap[w.heap.size]? → V.heap[W.heap.size]? = W2.heap[W.heap.size]? → V.cell? ⟨w.heap.size, 0, none⟩ = some (.pointer (some ⟨B, 0, none⟩)) ∧ V.cell? ⟨W.heap.size, 0, none⟩ = some (.string p.1.x.1) ∧ V.cell? ⟨W.heap.size, 1, none⟩ = some (.int .i64 p.1.x.2) ∧ V.cell? ⟨W.heap.size, 2, none⟩ = some (.slice p.1.a (lenF p.1.l) p.1.c) ∧ V.cell? ⟨W.heap.size, 3, none⟩ = some (.string p.2.x.1) ∧ V.cell? ⟨W.heap.size, 4, none⟩ = some (.int .i64 p.2.x.2) ∧ V.cell? ⟨W.heap.size, 5, none⟩ = some (.slice p.2.a (lenF p.2.l) p.2.c)) := hid (fun V hV hV2 => by
      have b1 : Box V w.heap.size 80 #[.pointer (some ⟨B, 0, none⟩)] := hV.trans HP1.out
      have b2 : Box V W.heap.size 28 #[.string p.1.x.1, .int .i64 p.1.x.2, .slice p.1.a (lenF p.1.l) p.1.c, .string p.2.x.1, .int .i64 p.2.x.2, .slice p.2.a (lenF p.2.l) p.2.c] := hV2.trans HE2.out
      exact ⟨b1.c 0, b2.c 0, b2.c 1, b2.c 2, b2.c 3, b2.c 4, b2.c 5⟩)
    have HSX : Hid (∀ V : World, V.heap[w.heap.size]? = W2.heap[w.heap.size]? → V.heap[W.heap.size]? = W2.heap[W.heap.size]? → ∀ u : Value, (V.setCell ⟨B, 0, none⟩ u).cell? ⟨w.heap.size, 0, none⟩ = some (.pointer (some ⟨B, 0, none⟩)) ∧ (V.setCell ⟨B, 0, none⟩ u).cell? ⟨W.heap.size, 0, none⟩ = some (.string p.1.x.1) ∧ (V.setCell ⟨B, 0, none⟩ u).cell? ⟨W.heap.size, 1, none⟩ = some (.int .i64 p.1.x.2) ∧ (V.setCell ⟨B, 0, none⟩ u).cell? ⟨W.heap.size, 2, none⟩ = some (.slice p.1.a (lenF p.1.l) p.1.c) ∧ (V.setCell ⟨B, 0, none⟩ u).cell? ⟨W.heap.size, 3, none⟩ = some (.string p.2.x.1) ∧ (V.setCell ⟨B, 0, none⟩ u).cell? ⟨W.heap.size, 4, none⟩ = some (.int .i64 p.2.x.2) ∧ (V.setCell ⟨B, 0, none⟩ u).cell? ⟨W.heap.size, 5, none⟩ = some (.slice p.2.a (lenF p.2.l) p.2.c)) := hid (fun V hV hV2 u => by
      have b1 : Box (V.setCell ⟨B, 0, none⟩ u) w.heap.size 80 #[.pointer (some ⟨B, 0, none⟩)] := (set_far (by omega) _ _).trans (hV.trans HP1.out)
      have b2 : Box (V.setCell ⟨B, 0, none⟩ u) W.heap.size 28 #[.string p.1.x.1, .int .i64 p.1.x.2, .slice p.1.a (lenF p.1.l) p.1.c, .string p.2.x.1, .int .i64 p.2.x.2, .slice p.2.a (lenF p.2.l) p.2.c] := (set_far (by omega) _ _).trans (hV2.trans HE2.out)
      exact ⟨b1.c 0, b2.c 0, b2.c 1, b2.c 2, b2.c 3, b2.c 4, b2.c 5⟩)
    obtain ⟨i0, hi, hz1, hz2, hz3⟩ := info_parts Try.info28
    gi_wp2_with fail
    refine wpIn_mono (Q := fun e a' w' => e = .normal ∧ ∃ g3 cap3 w3, w' = w3.setCell ⟨B, 0, none⟩ (.slice (some ⟨g3, 0, none⟩) (nk + 1) cap3) ∧ Fr (fun b => v1'.ownBlock = some b) W2 w3 ∧ (v1'.ownBlock = some g3 ∨ W2.heap.size ≤ g3) ∧ Box w3 B 63 #[v1', v2] ∧ w3.ownsRow (B + 1) 28 6 (.slice (some ⟨g3, 0, none⟩) (nk + 1) cap3) (nk + 1) (kvCells ek ++ kvCells [p.1, p.2])) ?first ?rest
    case first =>
      refine wpIn_region_held (fun V => V.cell? ⟨w.heap.size, 0, none⟩ = some (.pointer (some ⟨B, 0, none⟩)) ∧ V.cell? ⟨W.heap.size, 0, none⟩ = some (.string p.1.x.1) ∧ V.cell? ⟨W.heap.size, 1, none⟩ = some (.int .i64 p.1.x.2) ∧ V.cell? ⟨W.heap.size, 2, none⟩ = some (.slice p.1.a (lenF p.1.l) p.1.c) ∧ V.cell? ⟨W.heap.size, 3, none⟩ = some (.string p.2.x.1) ∧ V.cell? ⟨W.heap.size, 4, none⟩ = some (.int .i64 p.2.x.2) ∧ V.cell? ⟨W.heap.size, 5, none⟩ = some (.slice p.2.a (lenF p.2.l) p.2.c)) (by kernel_rfl) (by kernel_rfl) (by rintro ⟨_, _, h, _⟩; cases h) (HSS.out _ rfl rfl) ?_
      intro hS
      refine wpAnyH_take (i := 0) (v := (.pointer (some ⟨B, 0, none⟩))) rfl (by kernel_rfl) (by kernel_rfl) (by kernel_rfl) (fun _ _ _ h => by cases h.1) (Or.inl ⟨by rfl, fun w' hw' => ?_⟩) hS ?_
      · have y0 := hw'.1; go_simp
      simp only [Act.put, List.getElem_toArray, List.getElem_cons_zero, List.setIfInBounds_toArray, List.set_cons_zero, List.set_cons_succ]
      refine wpAnyH_take (i := 1) (v := (.pointer (some ⟨B, 0, none⟩))) rfl (by kernel_rfl) (by kernel_rfl) (by kernel_rfl) (fun _ _ _ h => by cases h.1) (Or.inl ⟨by rfl, fun w' hw' => ?_⟩) hS ?_
      · have y0 := hw'.1; go_simp
      simp only [Act.put, List.getElem_toArray, List.getElem_cons_zero, List.getElem_cons_succ, List.setIfInBounds_toArray, List.set_cons_zero, List.set_cons_succ]
      refine wpAnyH_take (i := 2) (v := (.pointer (some ⟨B, 0, none⟩))) rfl (by kernel_rfl) (by kernel_rfl) (by kernel_rfl) (fun _ _ _ h => by cases h.1) (Or.inl ⟨by rfl, fun w' hw' => ?_⟩) hS ?_
      · go_simp
      simp only [Act.put, List.getElem_toArray, List.getElem_cons_zero, List.getElem_cons_succ, List.setIfInBounds_toArray, List.set_cons_zero, List.set_cons_succ]
      refine wpAnyH_take (i := 3) (v := (.pointer (some ⟨B, 0, none⟩))) rfl (by kernel_rfl) (by kernel_rfl) (by kernel_rfl) (fun _ _ _ h => by cases h.1) (Or.inl ⟨by rfl, fun w' hw' => ?_⟩) hS ?_
      · go_simp
      simp only [Act.put, List.getElem_toArray, List.getElem_cons_zero, List.getElem_cons_succ, List.setIfInBounds_toArray, List.set_cons_zero, List.set_cons_succ]
      refine wpAnyH_take (i := 5) (v := (.agg #[.string p.1.x.1, .int .i64 p.1.x.2, .slice p.1.a (lenF p.1.l) p.1.c, .string p.2.x.1, .int .i64 p.2.x.2, .slice p.2.a (lenF p.2.l) p.2.c])) rfl (by kernel_rfl) (by kernel_rfl) (by kernel_rfl) (fun _ _ _ h => by cases h.1) (Or.inl ⟨by rfl, fun w' hw' => ?_⟩) hS ?_
      · obtain ⟨_, y0, y1, y2, y3, y4, y5⟩ := hw'; go_simp
      simp only [Act.put, List.getElem_toArray, List.getElem_cons_zero, List.getElem_cons_succ, List.setIfInBounds_toArray, List.set_cons_zero, List.set_cons_succ]
      refine wpAnyH_ready (rs := [4, 6]) (by kernel_rfl) (by simp) ?_
      refine AllReadyH.cons rfl (fun K hK => ?_) (AllReadyH.cons rfl (fun K hK => ?_) AllReadyH.nil)
      · have bq : W2.drew.cell? ⟨B, 0, none⟩ = some v1' := HB2.out.c 0
        go_simp
        refine hK.out _ _ hS (fun hS => ?_)
        clear hK K
        refine wpAnyH_ready (rs := [6]) (by kernel_rfl) (by simp) ?_
        refine AllReadyH.cons rfl (fun K hK => ?_) AllReadyH.nil
        go_simp
        refine hK.out _ _ (HSS.out _ ((((Below.refl _ W2).alloc (Nat.le_refl _) (.cells #[.string p.1.x.1, .int .i64 p.1.x.2, .slice p.1.a (lenF p.1.l) p.1.c, .string p.2.x.1, .int .i64 p.2.x.2, .slice p.2.a (lenF p.2.l) p.2.c] 28)).drew).block _ HPL.out.1) ((((Below.refl _ W2).alloc (Nat.le_refl _) (.cells #[.string p.1.x.1, .int .i64 p.1.x.2, .slice p.1.a (lenF p.1.l) p.1.c, .string p.2.x.1, .int .i64 p.2.x.2, .slice p.2.a (lenF p.2.l) p.2.c] 28)).drew).block _ HPL.out.2.2.1)) (fun hS => ?_)
        clear hK K
        refine wpAnyH_ready (rs := [7]) (by kernel_rfl) (by simp) ?_
        refine AllReadyH.cons rfl (fun K hK => ?_) AllReadyH.nil
        refine step_append_lies _ (by rfl) _ _ 34 (by rfl) (B + 1) 28 i0 _ 6 96 Try.underlying34 hi hz1 hz2 hz3 rfl (by decide) v1' nk (kvCells ek) (by rfl) (owns_below HRW.out (((Below.refl _ W2).alloc (Nat.le_refl _) _).drew)) ⟨W2.heap.size, 0, none⟩ 1 1 (kvCells [p.1, p.2]) (by rfl) rfl (World.news_of_block (Box.new W2 28 #[.string p.1.x.1, .int .i64 p.1.x.2, .slice p.1.a (lenF p.1.l) p.1.c, .string p.2.x.1, .int .i64 p.2.x.2, .slice p.2.a (lenF p.2.l) p.2.c])) (six_one p.1 p.2) (by decide) (by unfold maxLen; omega) (by omega) (by simp; omega) _ rfl ?_
        intro g3 cap3 w3 hown3 hgrow3 hat3 hlt3
        have hf3 : Fr (fun b => v1'.ownBlock = some b) W2 w3 := (Fr.of_below (((Below.refl _ W2).alloc (Nat.le_refl _) _).drew)).trans (fr_grown hgrow3)
        have hat4 : v1'.ownBlock = some g3 ∨ W2.heap.size ≤ g3 := hat3.imp_right (fun e => by rw [e]; simp)
        have bx3 : Box w3 B 63 #[v1', v2] := (hf3.same B HB2.out.lt HNB.out).trans HB2.out
        have v0 := bx3.c 0
        have e0 := bx3.f 0
        refine hK.out _ _ (HSS.out _ (hf3.same _ HPL.out.1 HPL.out.2.1) (hf3.same _ HPL.out.2.2.1 HPL.out.2.2.2)) (fun hS => ?_)
        clear hK K
        simp only [Act.put, List.getElem_toArray, List.getElem_cons_zero, List.getElem_cons_succ, List.setIfInBounds_toArray, List.set_cons_zero, List.set_cons_succ]
        refine wpAnyH_take (i := 8) (v := (.pointer (some ⟨B, 0, none⟩))) rfl (by kernel_rfl) (by kernel_rfl) (by kernel_rfl) (fun _ _ _ h => by cases h.1) (Or.inl ⟨by rfl, fun w' hw' => ?_⟩) hS ?_
        · go_simp
        simp only [Act.put, List.getElem_toArray, List.getElem_cons_zero, List.getElem_cons_succ, List.setIfInBounds_toArray, List.set_cons_zero, List.set_cons_succ]
        refine wpAnyH_take (i := 9) (v := (.pointer (some ⟨B, 0, none⟩))) rfl (by kernel_rfl) (by kernel_rfl) (by kernel_rfl) (fun _ _ _ h => by cases h.1) (Or.inl ⟨by rfl, fun w' hw' => ?_⟩) hS ?_
        · go_simp
        simp only [Act.put, List.getElem_toArray, List.getElem_cons_zero, List.getElem_cons_succ, List.setIfInBounds_toArray, List.set_cons_zero, List.set_cons_succ]
        refine wpAnyH_ready (rs := [10]) (by kernel_rfl) (by simp) ?_
        refine AllReadyH.cons rfl (fun K hK => ?_) AllReadyH.nil
        go_simp
        refine hK.out _ _ (HSX.out w3 (hf3.same _ HPL.out.1 HPL.out.2.1) (hf3.same _ HPL.out.2.2.1 HPL.out.2.2.2) _) (fun hS => ?_)
        clear hK K
        refine wpAnyH_done (by kernel_rfl) ?_ _
        exact ⟨rfl, g3, cap3, w3, rfl, hf3, hat4, bx3, hown3⟩
      · go_simp
        refine hK.out _ _ (HSS.out _ ((((Below.refl _ W2).alloc (Nat.le_refl _) (.cells #[.string p.1.x.1, .int .i64 p.1.x.2, .slice p.1.a (lenF p.1.l) p.1.c, .string p.2.x.1, .int .i64 p.2.x.2, .slice p.2.a (lenF p.2.l) p.2.c] 28)).drew).block _ HPL.out.1) ((((Below.refl _ W2).alloc (Nat.le_refl _) (.cells #[.string p.1.x.1, .int .i64 p.1.x.2, .slice p.1.a (lenF p.1.l) p.1.c, .string p.2.x.1, .int .i64 p.2.x.2, .slice p.2.a (lenF p.2.l) p.2.c] 28)).drew).block _ HPL.out.2.2.1)) (fun hS => ?_)
        clear hK K
        refine wpAnyH_ready (rs := [4]) (by kernel_rfl) (by simp) ?_
        refine AllReadyH.cons rfl (fun K hK => ?_) AllReadyH.nil
        have bq : (W2.alloc (.cells #[.string p.1.x.1, .int .i64 p.1.x.2, .slice p.1.a (lenF p.1.l) p.1.c, .string p.2.x.1, .int .i64 p.2.x.2, .slice p.2.a (lenF p.2.l) p.2.c] 28)).drew.cell? ⟨B, 0, none⟩ = some v1' := (HB2.out.over (.cells #[.string p.1.x.1, .int .i64 p.1.x.2, .slice p.1.a (lenF p.1.l) p.1.c, .string p.2.x.1, .int .i64 p.2.x.2, .slice p.2.a (lenF p.2.l) p.2.c] 28)).c 0
        go_simp
        refine hK.out _ _ hS (fun hS => ?_)
        clear hK K
        refine wpAnyH_ready (rs := [7]) (by kernel_rfl) (by simp) ?_
        refine AllReadyH.cons rfl (fun K hK => ?_) AllReadyH.nil
        refine step_append_lies _ (by rfl) _ _ 34 (by rfl) (B + 1) 28 i0 _ 6 96 Try.underlying34 hi hz1 hz2 hz3 rfl (by decide) v1' nk (kvCells ek) (by rfl) (owns_below HRW.out (((Below.refl _ W2).alloc (Nat.le_refl _) _).drew)) ⟨W2.heap.size, 0, none⟩ 1 1 (kvCells [p.1, p.2]) (by rfl) rfl (World.news_of_block (Box.new W2 28 #[.string p.1.x.1, .int .i64 p.1.x.2, .slice p.1.a (lenF p.1.l) p.1.c, .string p.2.x.1, .int .i64 p.2.x.2, .slice p.2.a (lenF p.2.l) p.2.c])) (six_one p.1 p.2) (by decide) (by unfold maxLen; omega) (by omega) (by simp; omega) _ rfl ?_
        intro g3 cap3 w3 hown3 hgrow3 hat3 hlt3
        have hf3 : Fr (fun b => v1'.ownBlock = some b) W2 w3 := (Fr.of_below (((Below.refl _ W2).alloc (Nat.le_refl _) _).drew)).trans (fr_grown hgrow3)
        have hat4 : v1'.ownBlock = some g3 ∨ W2.heap.size ≤ g3 := hat3.imp_right (fun e => by rw [e]; simp)
        have bx3 : Box w3 B 63 #[v1', v2] := (hf3.same B HB2.out.lt HNB.out).trans HB2.out
        have v0 := bx3.c 0
        have e0 := bx3.f 0
        refine hK.out _ _ (HSS.out _ (hf3.same _ HPL.out.1 HPL.out.2.1) (hf3.same _ HPL.out.2.2.1 HPL.out.2.2.2)) (fun hS => ?_)
        clear hK K
        simp only [Act.put, List.getElem_toArray, List.getElem_cons_zero, List.getElem_cons_succ, List.setIfInBounds_toArray, List.set_cons_zero, List.set_cons_succ]
        refine wpAnyH_take (i := 8) (v := (.pointer (some ⟨B, 0, none⟩))) rfl (by kernel_rfl) (by kernel_rfl) (by kernel_rfl) (fun _ _ _ h => by cases h.1) (Or.inl ⟨by rfl, fun w' hw' => ?_⟩) hS ?_
        · go_simp
        simp only [Act.put, List.getElem_toArray, List.getElem_cons_zero, List.getElem_cons_succ, List.setIfInBounds_toArray, List.set_cons_zero, List.set_cons_succ]
        refine wpAnyH_take (i := 9) (v := (.pointer (some ⟨B, 0, none⟩))) rfl (by kernel_rfl) (by kernel_rfl) (by kernel_rfl) (fun _ _ _ h => by cases h.1) (Or.inl ⟨by rfl, fun w' hw' => ?_⟩) hS ?_
        · go_simp
        simp only [Act.put, List.getElem_toArray, List.getElem_cons_zero, List.getElem_cons_succ, List.setIfInBounds_toArray, List.set_cons_zero, List.set_cons_succ]
        refine wpAnyH_ready (rs := [10]) (by kernel_rfl) (by simp) ?_
        refine AllReadyH.cons rfl (fun K hK => ?_) AllReadyH.nil
        go_simp
        refine hK.out _ _ (HSX.out w3 (hf3.same _ HPL.out.1 HPL.out.2.1) (hf3.same _ HPL.out.2.2.1 HPL.out.2.2.2) _) (fun hS => ?_)
        clear hK K
        refine wpAnyH_done (by kernel_rfl) ?_ _
        exact ⟨rfl, g3, cap3, w3, rfl, hf3, hat4, bx3, hown3⟩
    case rest =>
      rintro e a' w' ⟨rfl, g3, cap3, w3, rfl, hf3, hat3, hbx3, hown3⟩
      have hLs : W0.heap.size + 1 < W2.heap.size := (Array.getElem?_eq_some_iff.1 HL2.out).1
      have hg3B : B + 1 ≤ g3 := (owns_cells hown3 (g := g3) rfl).1
      have hof : ∀ b, b ≠ B → (w3.setCell ⟨B, 0, none⟩ (.slice (some ⟨g3, 0, none⟩) (nk + 1) cap3)).heap[b]? = w3.heap[b]? := fun b hb => set_far hb _ _
      have hfr3 : Fr (fun b => v1'.ownBlock = some b ∨ b = B) W2 (w3.setCell ⟨B, 0, none⟩ (.slice (some ⟨g3, 0, none⟩) (nk + 1) cap3)) := fr_set1 (A := fun b => v1'.ownBlock = some b ∨ b = B) (hf3.mono (fun b hb => .inl hb)) (.inr rfl) 0 _
      have hsv3 : Sv w0 B (.slice (some ⟨g3, 0, none⟩) (nk + 1) cap3) v2 (nk + 1) (ek ++ [p.1, p.2]) bs (w3.setCell ⟨B, 0, none⟩ (.slice (some ⟨g3, 0, none⟩) (nk + 1) cap3)) :=
        HSV2.out.lay hfr3 (hbx3.set 0 _) (owns_block hown3 (fun b hb => by
          have e2 : some g3 = some b := hb
          have := Option.some.inj e2
          exact hof b (by omega))) (HTM.out HPM.out.1) (HTM.out HPM.out.2)
      have hne5 := HNW.out
      have hk1 : ∀ b, b < W2.heap.size → ¬ v1'.ownBlock = some b → b ≠ B → (w3.setCell ⟨B, 0, none⟩ (.slice (some ⟨g3, 0, none⟩) (nk + 1) cap3)).heap[b]? = W2.heap[b]? := fun b hb h2 h3 => (hof b h3).trans (hf3.same b hb h2)
      have hlow3 : Fr (fun b => v1.ownBlock = some b ∨ b = B) w (w3.setCell ⟨B, 0, none⟩ (.slice (some ⟨g3, 0, none⟩) (nk + 1) cap3)) := by
        refine ⟨HLOW2.out.low.trans hfr3.low, fun b hb hA => ?_⟩
        have hb2 : b < W2.heap.size := Nat.lt_of_lt_of_le hb HLOW2.out.low.size
        refine (hk1 b hb2 (fun e => ?_) (fun e => hA (.inr e))).trans (HLOW2.out.same b hb hA)
        rcases HV'.out with h | h
        · exact hA (.inl (h ▸ e))
        · have := h b e; omega
      have hnew : (Value.slice (some ⟨g3, 0, none⟩) (nk + 1) cap3).ownBlock = v1.ownBlock ∨ ∀ g, (Value.slice (some ⟨g3, 0, none⟩) (nk + 1) cap3).ownBlock = some g → W0.heap.size + 1 < g := by
        rcases hat3 with h | h
        · rcases HV'.out with h2 | h2
          · left
            rw [← h2, h]
            rfl
          · right
            intro g e
            have e2 : some g3 = some g := e
            rw [← Option.some.inj e2]
            exact h2 _ h
        · right
          intro g e
          have e2 : some g3 = some g := e
          have := Option.some.inj e2
          omega
      have hK3 : LyS w0 w B v1 v2 n es bs P q d w.heap.size (w.heap.size + 1) W0.heap.size (W0.heap.size + 1) (k + 1) (w3.setCell ⟨B, 0, none⟩ (.slice (some ⟨g3, 0, none⟩) (nk + 1) cap3)) :=
        ⟨hlow3, (hk1 _ HP1.out.lt HPL.out.2.1 (by omega)).trans HP1.out, (hk1 _ HP2.out.lt (fun e => (hne5 _ e).2.2.1 rfl) (by omega)).trans HP2.out, (hk1 _ (by omega) (fun e => (hne5 _ e).2.2.2.1 rfl) (by omega)).trans HDF.out, _, hnew, by
          rw [HTK.out, flatK_app, ← List.append_assoc, HEK.out, ← Nat.add_assoc, HNK.out]
          exact hsv3⟩
      have hL3 : (w3.setCell ⟨B, 0, none⟩ (.slice (some ⟨g3, 0, none⟩) (nk + 1) cap3)).heap[W0.heap.size + 1]? = some (.loop { r with state := .busy }) := (hk1 _ hLs (fun e => (hne5 _ e).2.2.2.2 rfl) (by omega)).trans HL2.out
      generalize w3.setCell ⟨B, 0, none⟩ (.slice (some ⟨g3, 0, none⟩) (nk + 1) cap3) = W5 at hK3 hL3 ⊢
      refine ⟨hL3, rfl, ?_⟩
      rw [loop_again hr1 hr2]
      exact ⟨hK3.put hL3 (by omega) (by omega) (by omega) (by omega) (by omega) (by omega) (fun e => by have := hv1.out _ e; omega) hv2L _, World.putObj_heap_same (Array.getElem?_eq_some_iff.1 hL3).1⟩
  · rintro e W ⟨⟨v, rfl⟩, hKW, hL⟩
    have hz := HZ0.out
    refine ⟨⟨v, rfl⟩, hKW.df, .inl ⟨hL, ?_⟩⟩
    have hv2L : v2.ownBlock ≠ some (W0.heap.size + 1) := fun e => by have := hv2.out _ e; omega
    have hK3 := hKW.put hL (by omega) (by omega) (by omega) (by omega) (by omega) (by omega) (fun e => by have := hv1.out _ e; omega) hv2L (.loop { r with state := .exhausted })
    have HK3 := hid hK3
    clear hKW hL hK3 hK0 hL0 hbb hwb hr1 hr2 hr3 hr4 hr5 hr6 hr7
    generalize W.putObj (W0.heap.size + 1) (.loop { r with state := .exhausted }) = W4 at HK3 ⊢
    gi_wp2
    refine ⟨by simp, .inl ⟨_, _, rfl, run_takeDeferred HK3.out.df, ?_⟩⟩
    obtain ⟨v1', hv', hsv⟩ := HK3.out.sv
    rw [List.take_of_length_le (by rw [List.length_reverse]; exact Nat.le_refl _)] at hsv
    refine ⟨_, results_none rfl _ _ _, ⟨_, rfl⟩, fr_putl HK3.out.low (by omega) _, v1', hsv.keep (fr_putO W4 W0.heap.size _) (fun b ob hb ho => ?_) (fun b hb => by omega) (by omega) (fun b hb e => ?_) (fun b hb e => by have := hv2.out b hb; omega)⟩
    · subst hb
      rw [HK3.out.df] at ho
      cases ho
      unfold S0
      rw [decide_eq_false (by omega)]
      rfl
    · rcases hv' with h | h
      · have := hv1.out b (h ▸ hb); omega
      · have := h b hb; omega
end Go.Proofs.Ytfnfbljijkjkjaa
/- set of the solver. -/
namespace Go.Proofs.Ytfnfbljijkjkjaa
open Go.RowKit Go.Shelf Go.Deep

/-- Is there room wherever a variable's term is put in? -/
def roomAll (nm : ByteArray) (t : Tn) (es : List Kv) (bs : List Bk) : Bool := es.all (roomK nm ((nodesF t.2 : Int) + 1)) && bs.all fun b => roomK nm ((nodesF t.2 : Int) + 1) b.2
set_option maxRecDepth 100000 in
set_option maxHeartbeats 8000000 in
theorem set_any (w0 : World) (B : Nat) (v1 v2 : Value) (n : Nat) (es : List Kv) (bs : List Bk) (w : World) (nm : ByteArray) (t : Tn) (a : Option Addr) (d : Nat) (hS : Sv w0 B v1 v2 n es bs w) (hT : TmO (S0 w0.heap.size) w t.1 a d t.2) (hM : nodesF t.2 ≤ 1048576) (hn : n ≤ 1073741824) (hnb : bs.length ≤ 1073741824) (hMe : ∀ k ∈ es, nodesF k.l ≤ 1048576) (hMb : ∀ b ∈ bs, nodesF b.2.l ≤ 1048576) :
    Calls Try.prog 34 #[.pointer (some ⟨B, 0, none⟩), .agg #[.string nm, .string t.1.1, .int .i64 t.1.2, .slice a (lenF t.2) d]] w fun e w' => e = .returned (.bool (roomAll nm t es bs)) ∧ Below w0.heap.size w0 w' ∧
      (roomAll nm t es bs = true → ∃ v2' es' bs', es'.map Kv.tn = es.map (fun k => w1T nm t k.tn) ∧ bs'.map btn = bs.map (fun b => (b.1, w1T nm t b.2.tn)) ++ [(nm, t)] ∧ Sv w0 B v1 v2' n es' bs' w') := by
  obtain ⟨⟨xn, xs⟩, l⟩ := t
  dsimp only at *
  have hb0 := alloc_below0 w (.cells #[.string nm, .string xn, .int .i64 xs, .slice a (lenF l) d] 33)
  have hX := Box.new w 33 #[.string nm, .string xn, .int .i64 xs, .slice a (lenF l) d]
  have HSZ := hid fun (W : World) (hW : Below w.heap.size w W) => size_any (xn, xs) l a d W ((tmO_tm hT).below hW) (by omega)
  have HB0 := hid hb0; have HX := hid hX; have HSV := hid hS; have HT := hid hT; have HME := hid hMe; have HMB := hid hMb
  have z0 := hX.c 0; have z1 := hX.c 1; have z2 := hX.c 2; have z3 := hX.c 3
  have hlt := hS.box.lt
  clear hX hb0 hT hS hMe hMb
  unfold roomAll
  cases h1 : es.all (roomK nm ((nodesF l : Int) + 1))
  · have HR1 := hid h1
    clear h1
    go_enter Try.func34, Try.ntmps34
    go_upto_region 1 with fail
    go_region_with ((first
      | (go_at_call 54; refine (HSZ.out _ HB0.out.drew).mono ?_; rintro e w1 ⟨rfl, hb1⟩; have hb1' : Below (w.alloc (.cells #[.string nm, .string xn, .int .i64 xs, .slice a (lenF l) d] 33)).heap.size (w.alloc (.cells #[.string nm, .string xn, .int .i64 xs, .slice a (lenF l) d] 33)) w1 := (Below.refl _ _).drew.trans hb1; have HB1 := hid (HB0.out.trans (hb1'.mono HB0.out.size)); have X1 := HX.out.below hb1'; have HX1 := hid X1; have y0 := X1.c 0; have y1 := X1.c 1; have y2 := X1.c 2; have y3 := X1.c 3; clear hb1 hb1' X1)
      | fail))
    all_goals
      have hba := alloc_below0 w1 (.cells #[.string nm, .string xn, .int .i64 xs, .slice a (lenF l) d, .int .i64 (nodesF l + 1)] 92)
      have HB2 := hid (HB1.out.trans (hba.mono HB1.out.size))
      have HX2 := hid (HX1.out.below hba)
      have HQB := hid (Box.new w1 92 #[.string nm, .string xn, .int .i64 xs, .slice a (lenF l) d, .int .i64 (nodesF l + 1)])
      have HS2 := hid (HSV.out.below HB2.out)
      have HT2 := hid (tmO_below HT.out HB2.out)
      clear z0 z1 z2 z3 y0 y1 y2 y3 hba
      generalize w1.alloc (.cells #[.string nm, .string xn, .int .i64 xs, .slice a (lenF l) d, .int .i64 (nodesF l + 1)] 92) = V at HB2 HX2 HQB HS2 HT2 ⊢
      have H55 := hid (sides_any nm ((xn, xs), l) a d (N := (nodesF l : Int) + 1) (by omega) w1.heap.size w0 B v1 v2 n es bs V HS2.out HQB.out HT2.out hn HME.out)
      rw [HR1.out] at H55
      go_wp2_with (go_at_call 55; refine H55.out.mono ?_; rintro e w3 ⟨rfl, hb3, _⟩; have HB3 := hid hb3; clear hb3)
      go_ret
      refine ⟨rfl, HB3.out, fun h => ?_⟩
      cases h
  · have HR1 := hid h1
    clear h1
    cases h2 : bs.all (fun b => roomK nm ((nodesF l : Int) + 1) b.2)
    · have HR2 := hid h2
      clear h2
      go_enter Try.func34, Try.ntmps34
      go_upto_region 1 with fail
      go_region_with ((first
        | (go_at_call 54; refine (HSZ.out _ HB0.out.drew).mono ?_; rintro e w1 ⟨rfl, hb1⟩; have hb1' : Below (w.alloc (.cells #[.string nm, .string xn, .int .i64 xs, .slice a (lenF l) d] 33)).heap.size (w.alloc (.cells #[.string nm, .string xn, .int .i64 xs, .slice a (lenF l) d] 33)) w1 := (Below.refl _ _).drew.trans hb1; have HB1 := hid (HB0.out.trans (hb1'.mono HB0.out.size)); have X1 := HX.out.below hb1'; have HX1 := hid X1; have y0 := X1.c 0; have y1 := X1.c 1; have y2 := X1.c 2; have y3 := X1.c 3; clear hb1 hb1' X1)
        | fail))
      all_goals
        have hba := alloc_below0 w1 (.cells #[.string nm, .string xn, .int .i64 xs, .slice a (lenF l) d, .int .i64 (nodesF l + 1)] 92)
        have HB2 := hid (HB1.out.trans (hba.mono HB1.out.size))
        have HX2 := hid (HX1.out.below hba)
        have HQB := hid (Box.new w1 92 #[.string nm, .string xn, .int .i64 xs, .slice a (lenF l) d, .int .i64 (nodesF l + 1)])
        have HS2 := hid (HSV.out.below HB2.out)
        have HT2 := hid (tmO_below HT.out HB2.out)
        clear z0 z1 z2 z3 y0 y1 y2 y3 hba
        generalize w1.alloc (.cells #[.string nm, .string xn, .int .i64 xs, .slice a (lenF l) d, .int .i64 (nodesF l + 1)] 92) = V at HB2 HX2 HQB HS2 HT2 ⊢
        have H55 := hid (sides_any nm ((xn, xs), l) a d (N := (nodesF l : Int) + 1) (by omega) w1.heap.size w0 B v1 v2 n es bs V HS2.out HQB.out HT2.out hn HME.out)
        rw [HR1.out] at H55
        have H56 := hid fun (W : World) (es' : List Kv) (hs : Sv w0 B v1 v2 n es' bs W) (hq : Box W w1.heap.size 92 #[.string nm, .string xn, .int .i64 xs, .slice a (lenF l) d, .int .i64 (nodesF l + 1)]) (ht : TmO (S0 w0.heap.size) W (xn, xs) a d l) => bound_any nm ((xn, xs), l) a d (N := (nodesF l : Int) + 1) (by omega) w1.heap.size w0 B v1 v2 n es' bs W hs hq ht hnb HMB.out
        simp only [HR2.out] at H56
        go_wp2_with (first
          | (go_at_call 55; refine H55.out.mono ?_; rintro e w3 ⟨rfl, _, hr3⟩; obtain ⟨hf3, es', hmp3, hs3⟩ := hr3 rfl; have H56' := hid (H56.out _ es' hs3 ((hf3.same _ HQB.out.lt (fun h => row_box HS2.out.r1 HQB.out (by decide) h)).trans HQB.out) (tmO_fr HT2.out hf3 (fun q o hq ho => (HS2.out.hid1 (.inl hq) ho).2))); clear hf3 hmp3 hs3 hr3)
          | (go_at_call 56; refine H56'.out.mono ?_; rintro e w4 ⟨rfl, hb4, _⟩; have HB4 := hid hb4; clear hb4))
        go_ret
        refine ⟨rfl, HB4.out, fun h => ?_⟩
        cases h
    · have HR2 := hid h2
      clear h2
      go_enter Try.func34, Try.ntmps34
      go_upto_region 1 with fail
      go_region_with ((first
        | (go_at_call 54; refine (HSZ.out _ HB0.out.drew).mono ?_; rintro e w1 ⟨rfl, hb1⟩; have hb1' : Below (w.alloc (.cells #[.string nm, .string xn, .int .i64 xs, .slice a (lenF l) d] 33)).heap.size (w.alloc (.cells #[.string nm, .string xn, .int .i64 xs, .slice a (lenF l) d] 33)) w1 := (Below.refl _ _).drew.trans hb1; have HB1 := hid (HB0.out.trans (hb1'.mono HB0.out.size)); have X1 := HX.out.below hb1'; have HX1 := hid X1; have y0 := X1.c 0; have y1 := X1.c 1; have y2 := X1.c 2; have y3 := X1.c 3; clear hb1 hb1' X1)
        | fail))
      all_goals
        have hba := alloc_below0 w1 (.cells #[.string nm, .string xn, .int .i64 xs, .slice a (lenF l) d, .int .i64 (nodesF l + 1)] 92)
        have HB2 := hid (HB1.out.trans (hba.mono HB1.out.size))
        have HX2 := hid (HX1.out.below hba)
        have HQB := hid (Box.new w1 92 #[.string nm, .string xn, .int .i64 xs, .slice a (lenF l) d, .int .i64 (nodesF l + 1)])
        have HS2 := hid (HSV.out.below HB2.out)
        have HT2 := hid (tmO_below HT.out HB2.out)
        clear z0 z1 z2 z3 y0 y1 y2 y3 hba
        generalize w1.alloc (.cells #[.string nm, .string xn, .int .i64 xs, .slice a (lenF l) d, .int .i64 (nodesF l + 1)] 92) = V at HB2 HX2 HQB HS2 HT2 ⊢
        have H55 := hid (sides_any nm ((xn, xs), l) a d (N := (nodesF l : Int) + 1) (by omega) w1.heap.size w0 B v1 v2 n es bs V HS2.out HQB.out HT2.out hn HME.out)
        rw [HR1.out] at H55
        have H56 := hid fun (W : World) (es' : List Kv) (hs : Sv w0 B v1 v2 n es' bs W) (hq : Box W w1.heap.size 92 #[.string nm, .string xn, .int .i64 xs, .slice a (lenF l) d, .int .i64 (nodesF l + 1)]) (ht : TmO (S0 w0.heap.size) W (xn, xs) a d l) => bound_any nm ((xn, xs), l) a d (N := (nodesF l : Int) + 1) (by omega) w1.heap.size w0 B v1 v2 n es' bs W hs hq ht hnb HMB.out
        simp only [HR2.out] at H56
        go_upto_region 4 with (first
          | (go_at_call 55; refine H55.out.mono ?_; rintro e w3 ⟨rfl, _, hr3⟩; obtain ⟨hf3, es', hmp3, hs3⟩ := hr3 rfl; have H56' := hid (H56.out _ es' hs3 ((hf3.same _ HQB.out.lt (fun h => row_box HS2.out.r1 HQB.out (by decide) h)).trans HQB.out) (tmO_fr HT2.out hf3 (fun q o hq ho => (HS2.out.hid1 (.inl hq) ho).2))); have HX3 := hid ((hf3.same _ HX2.out.lt (fun h => row_box HS2.out.r1 HX2.out (by decide) h)).trans HX2.out); have HT3 := hid (tmO_fr HT2.out hf3 (fun q o hq ho => (HS2.out.hid1 (.inl hq) ho).2)); have HMP3 := hid hmp3; have HS3 := hid hs3; clear hf3 hmp3 hs3 hr3)
          | (go_at_call 56; refine H56'.out.mono ?_; rintro e w4 ⟨rfl, _, hr4⟩; obtain ⟨hf4, bs', hmp4, hs4⟩ := hr4 trivial; have HMP4 := hid hmp4; have HS4 := hid hs4; have HT4 := hid (tmO_fr HT3.out hf4 (fun q o hq ho => (HS3.out.hid2 (.inl hq) ho).2)); have HF4 := hid hf4; clear hf4 hmp4 hs4 hr4))
        have HX4 : Hid (Box w4 w.heap.size 33 #[.string nm, .string xn, .int .i64 xs, .slice a (lenF l) d]) := hid ((HF4.out.same _ (Box.lt HX3.out) (fun h => by have := (HSV.out.r2.lt _ h).2; omega)).trans HX3.out)
        have r0 := Box.c HX4.out 0; have r1 := Box.c HX4.out 1; have r2 := Box.c HX4.out 2; have r3 := Box.c HX4.out 3
        have q0 : w4.drew.cell? ⟨w.heap.size, 0, none⟩ = some (.string nm) := r0
        have q1 : w4.drew.cell? ⟨w.heap.size, 1, none⟩ = some (.string xn) := r1
        have q2 : w4.drew.cell? ⟨w.heap.size, 2, none⟩ = some (.int .i64 xs) := r2
        have q3 : w4.drew.cell? ⟨w.heap.size, 3, none⟩ = some (.slice a (lenF l) d) := r3
        have HA := hid (add_any w0 B v1 v2 n es' bs' w4.drew nm ⟨(xn, xs), l, a, d⟩ (HS4.out.below (Below.refl _ _).drew) (tmO_below HT4.out (Below.refl _ _).drew) (by
          have := congrArg List.length HMP4.out
          rw [List.length_map, List.length_map] at this
          omega))
        dsimp only at HA
        go_region_with ((first
          | (go_at_call 57; refine HA.out.mono ?_; rintro e w5 ⟨⟨v5, rfl⟩, v2', hs5⟩; have HS5 := hid hs5; clear hs5)
          | fail))
        all_goals
          go_wp2_with fail
          go_ret
          refine ⟨rfl, HS5.out.low, fun _ => ⟨v2', es', bs' ++ [(nm, ⟨(xn, xs), l, a, d⟩)], HMP3.out, ?_, HS5.out⟩⟩
          rw [List.map_append, HMP4.out]
          rfl
end Go.Proofs.Ytfnfbljijkjkjaa
