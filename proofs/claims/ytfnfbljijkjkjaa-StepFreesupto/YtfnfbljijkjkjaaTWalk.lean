/- What places of package terms hands out, to any loop: each place and the term there, each node ahead of its arguments. -/
import Derived.Test.YtfnfbljijkjkjaaRows
import Derived.Test.YtfnfbljijkjkjaaTMem
import Derived.Test.YtfnfbljijkjkjaaTBase
import Derived.Test.YtfnfbljijkjkjaaTLaw
import Derived.Deep.AppendLies
import Derived.Deep.AppendSrc
import Derived.Laws.EntriesVeiled
namespace Go.Proofs.Ytfnfbljijkjkjaa
open Go.RowKit Go.Shelf Go.Deep

attribute [local go_sem] Oper.semAt_some

/-- A place, and the term there. -/
abbrev Pl := List Int × (ByteArray × Int) × Fo
def placesF (path : List Int) : Nat → Fo → List Pl
  | _, .nil => []
  | i, .node _ _ x l r => (path ++ [(i : Int)], x, l) :: placesF (path ++ [(i : Int)]) 0 l ++ placesF path (i + 1) r
def placesT (path : List Int) (x : ByteArray × Int) (l : Fo) : List Pl := (path, x, l) :: placesF path 0 l
theorem places_len : ∀ (F : Fo) (path : List Int) (i : Nat), (placesF path i F).length = nodesF F
  | .nil, _, _ => rfl
  | .node _ _ x l r, path, i => by
    simp only [placesF, List.cons_append, List.length_cons, List.length_append, nodesF]
    rw [places_len l, places_len r]

/-- What is handed out: the path in a slice, the term as a value. -/
structure El where
  path : List Int
  x : ByteArray × Int
  l : Fo
  pv : Value
  a : Option Addr
  c : Nat
def El.info (e : El) : Pl := (e.path, e.x, e.l)
def El.encs (e : El) : Array Value := #[e.pv, .agg #[.string e.x.1, .int .i64 e.x.2, .slice e.a (lenF e.l) e.c]]
/-- What is so in memory when it is handed out. -/
structure Handed (b : Nat) (e : El) (W : World) : Prop where
  row : W.ownsRow b 3 1 e.pv e.path.length (intsV e.path)
  at_ : TmAt W e.x e.a e.c e.l
/-- What a round keeps. -/
structure Leaves (n0 : Nat) (e : El) (W W' : World) : Prop where
  below : Below n0 W W'
  kept : ∀ (k : Nat) (cs : Array Value) (t : TypeId) (fr : Nat × Nat), W.heap[k]? = some (Obj.cells cs t fr) → (t = 26 ∨ t = 117 ∨ t = 134 ∨ t = 42 ∨ some k = e.pv.ownBlock) → W'.heap[k]? = some (Obj.cells cs t fr)

/-- The iterator's own cells. -/
structure St (w0 : World) (b lp : Nat) (W : World) (path : List Int) (v : Value) : Prop where
  y : Boxed W b 134 (.func (.yield lp) #[] #[])
  p : Boxed W (b + 1) 117 v
  w : Boxed W (b + 2) 42 (.func (.func 96) #[] #[.pointer (some ⟨b, 0, none⟩), .pointer (some ⟨b + 1, 0, none⟩), .pointer (some ⟨b + 2, 0, none⟩)])
  row : W.ownsRow b 3 1 v path.length (intsV path)
  low : Below w0.heap.size w0 W

theorem St.below {w0 : World} {b lp : Nat} {W W' : World} {path : List Int} {v : Value} (h : St w0 b lp W path v) (hb : Below W.heap.size W W') : St w0 b lp W' path v :=
  ⟨boxed_below h.y hb, boxed_below h.p hb, boxed_below h.w hb, owns_below h.row hb, h.low.trans (hb.mono h.low.size)⟩
theorem St.leaves {w0 : World} {b lp : Nat} {W W' : World} {e : El} (h : St w0 b lp W e.path e.pv) (hk : Leaves w0.heap.size e W W') : St w0 b lp W' e.path e.pv :=
  ⟨hk.kept _ _ _ _ h.y (by simp), hk.kept _ _ _ _ h.p (by simp), hk.kept _ _ _ _ h.w (by simp), owns_block h.row (fun g hg => by
    obtain ⟨_, cur, hc⟩ := owns_cells h.row hg
    rw [hc]
    exact hk.kept g _ _ _ hc (by simp [hg])), h.low.trans hk.below⟩

theorem TBox.mv {B0 : Nat} {W W' : World} {B : Nat} {x : ByteArray × Int} {a : Option Addr} {n c : Nat} (h : TBox W B x a n c) (hm : Mv B0 W W') : TBox W' B x a n c := hm.cells _ _ _ _ h (by decide) (by decide)
theorem TBox.leaves {n0 : Nat} {e : El} {W W' : World} {B : Nat} {x : ByteArray × Int} {a : Option Addr} {n c : Nat} (h : TBox W B x a n c) (hk : Leaves n0 e W W') : TBox W' B x a n c := hk.kept _ _ _ _ h (by simp)
theorem owns_less {W : World} {base e g k cap : Nat} {xs : List Value} {y : Value} (h : W.ownsRow base e 1 (.slice (some ⟨g, 0, none⟩) (k + 1) cap) (k + 1) (xs ++ [y])) : W.ownsRow base e 1 (.slice (some ⟨g, 0, none⟩) k cap) k xs := by
  obtain ⟨hl, h⟩ := h
  have hl' : xs.length = k := by simp at hl; omega
  refine ⟨by omega, ?_⟩
  rcases h with ⟨hv, _⟩ | ⟨g', cap', cur, hv, hb, hh, hnc, hcm, hsz, hcur⟩
  · cases hv
  · simp only [Value.slice.injEq, Option.some.injEq, Addr.mk.injEq, and_true, true_and] at hv
    obtain ⟨rfl, rfl⟩ := hv
    refine .inr ⟨g, cap, cur, rfl, hb, hh, by omega, hcm, hsz, ?_⟩
    have : cur.toList.take (k * 1) = (cur.toList.take ((k + 1) * 1)).take (k * 1) := by rw [List.take_take]; congr 1; omega
    rw [this, hcur, List.take_append_of_le_length (by omega), List.take_of_length_le (by omega)]

theorem ints_snoc (path : List Int) (j : Int) : intsV (path ++ [j]) = intsV path ++ [.int .i64 j] := by simp [intsV]
/-- The path with one number more. -/
theorem St.push {w0 : World} {b lp : Nat} {W w1 : World} {path : List Int} {v : Value} {j : Int} {g cap : Nat} (hb0 : w0.heap.size ≤ b) (h : St w0 b lp W path v) (hg : W.grownBy w1 v.ownBlock)
    (ho : w1.ownsRow b 3 1 (.slice (some ⟨g, 0, none⟩) (path.length + 1) cap) (path.length + 1) (intsV path ++ [.int .i64 j])) :
    Boxed w1 (b + 1) 117 v ∧ Mv b W w1 ∧ St w0 b lp (w1.setCell ⟨b + 1, 0, none⟩ (.slice (some ⟨g, 0, none⟩) (path.length + 1) cap)) (path ++ [j]) (.slice (some ⟨g, 0, none⟩) (path.length + 1) cap) := by
  have hp := h.p.kept hg (h.p.not_row (by decide) h.row)
  have hy := h.y.kept hg (h.y.not_row (by decide) h.row)
  have hw := h.w.kept hg (h.w.not_row (by decide) h.row)
  have hlt := h.y.lt
  have hm : Mv b W w1 := Mv.grown hg (by omega) (fun r e => by
    obtain ⟨h1, cur, h2⟩ := owns_cells h.row e
    exact ⟨h1, cur, _, h2⟩)
  refine ⟨hp, hm, hy.other (by omega) _, hp.set _, hw.other (by omega) _, ?_, ?_⟩
  · rw [List.length_append, ints_snoc]
    exact ho.kept (grownBy_setCell' w1 (b + 1) _) (.inr (hp.not_row (by decide) ho).symm)
  · exact (h.low.trans (hm.below.mono hb0)).setCell (p := ⟨b + 1, 0, none⟩) (by show _ ≤ b + 1; omega) _
/-- The path with its last number struck. -/
theorem St.pop {w0 : World} {b lp : Nat} {W : World} {path : List Int} {v : Value} {j : Int} (hb0 : w0.heap.size ≤ b) (h : St w0 b lp W (path ++ [j]) v) :
    ∃ g cap, v = .slice (some ⟨g, 0, none⟩) (path.length + 1) cap ∧ path.length + 1 ≤ cap ∧ cap ≤ maxLen ∧ Mv b W (W.setCell ⟨b + 1, 0, none⟩ (.slice (some ⟨g, 0, none⟩) path.length cap)) ∧
      St w0 b lp (W.setCell ⟨b + 1, 0, none⟩ (.slice (some ⟨g, 0, none⟩) path.length cap)) path (.slice (some ⟨g, 0, none⟩) path.length cap) := by
  obtain ⟨hy, hp, hw, hr, hl⟩ := h
  rw [List.length_append, ints_snoc] at hr
  obtain ⟨g, cap, rfl⟩ := ownsRow_succ hr
  have hc : path.length + 1 ≤ cap ∧ cap ≤ maxLen := by
    rcases hr.2 with ⟨hv, _⟩ | ⟨g', cap', cur, hv, hb, hh, hnc, hcm, hsz, hcur⟩
    · cases hv
    · simp only [Value.slice.injEq, Option.some.injEq, Addr.mk.injEq, and_true] at hv
      obtain ⟨rfl, _, rfl⟩ := hv
      exact ⟨hnc, hcm⟩
  refine ⟨g, cap, rfl, hc.1, hc.2, Mv.box hp (by omega) _, hy.other (by omega) _, hp.set _, hw.other (by omega) _, ?_, ?_⟩
  · exact (owns_less hr).kept (grownBy_setCell' W (b + 1) _) (.inr (hp.not_row (by decide) hr).symm)
  · exact hl.setCell (p := ⟨b + 1, 0, none⟩) (by show _ ≤ b + 1; omega) _

def WalkOk (w0 : World) (b lp N : Nat) (J Jx : List El → World → Prop) (k : Nat) : Prop :=
  ∀ (x : ByteArray × Int) (l : Fo) (a : Option Addr) (c : Nat) (path : List Int) (pre : List El) (v : Value) (W : World), nodesF l ≤ k → TmAt w0 x a c l → St w0 b lp W path v → J pre W → path.length ≤ pre.length → pre.length + nodesF l + 1 ≤ N →
    Calls Try.prog 96 #[.agg #[.string x.1, .int .i64 x.2, .slice a (lenF l) c], .pointer (some ⟨b, 0, none⟩), .pointer (some ⟨b + 1, 0, none⟩), .pointer (some ⟨b + 2, 0, none⟩)] W fun e W' =>
      (e = .returned (.bool true) ∧ ∃ ys v', J (pre ++ ys) W' ∧ ys.map El.info = placesT path x l ∧ St w0 b lp W' path v') ∨
      (e = .returned (.bool false) ∧ ∃ ys, ys.map El.info <+: placesT path x l ∧ Jx (pre ++ ys) W')

set_option maxRecDepth 100000 in
set_option maxHeartbeats 4000000 in
theorem walk_any (w0 : World) (b lp N M : Nat) (J Jx : List El → World → Prop) (hb0 : w0.heap.size ≤ b) (hM : (M + 1) * 8 ≤ 140737488355328)
    (hJ : ∀ s A B, J s A → Mv b A B → J s B) (hJM : ∀ s A, J s A → s.length ≤ M)
    (hY : ∀ m pre x W1, J pre W1 → Handed b x W1 → pre.length < N → YieldAt Fence.wide m Try.prog lp (El.encs x) W1 fun e W' =>
      (e = .returned (.bool true) ∧ J (pre ++ [x]) W' ∧ Leaves w0.heap.size x W1 W') ∨ (e = .returned (.bool false) ∧ Jx (pre ++ [x]) W')) :
    ∀ k, WalkOk w0 b lp N J Jx k := by
  intro k
  induction k using Nat.strongRecOn with
  | _ k ih =>
    intro x l a c path pre v W hk hT hS hj hpl hN
    refine (callsIn_wide (n := 4)).1 ?_
    have h1 : 1 ≤ 4 := by omega
    obtain ⟨i0, hi, hz0, hz1, hz2⟩ := info_parts Try.info3
    have hb1 : Below W.heap.size W (W.alloc (.cells #[.string x.1, .int .i64 x.2, .slice a (lenF l) c] 26)) := (Below.refl _ W).alloc (Nat.le_refl _) _
    have hS1 := hS.below hb1
    have hbW : b ≤ W.heap.size := Nat.le_of_lt hS.y.lt
    have hj1 := hJ _ _ _ hj (Mv.of_below hb1 hbW)
    have hF : Handed b ⟨path, x, l, v, a, c⟩ (W.alloc (.cells #[.string x.1, .int .i64 x.2, .slice a (lenF l) c] 26)) := ⟨hS1.row, hT.below hS1.low⟩
    obtain ⟨fn, tmps, assign, body, hy, hR⟩ := hY 3 pre ⟨path, x, l, v, a, c⟩ _ hj1 hF (by omega)
    dsimp only [El.encs] at hy
    have cy := hS1.y.cell
    have cp := hS1.p.cell
    refine callsIn_of_wp Try.func96 rfl trivial ?_ rfl
    simp only [Try.ntmps96, List.size_toArray, List.length_cons, List.length_nil, Nat.reduceAdd, Nat.reduceSub, Array.replicate_succ, Array.replicate_zero, List.push_toArray, List.append_toArray, List.nil_append, List.cons_append]
    gi_wp2
    refine hR.mono ?_
    rintro e W1 (⟨rfl, hJ1, hk1⟩ | ⟨rfl, hx1⟩)
    · have hS2 : St w0 b lp W1 path v := hS1.leaves (e := ⟨path, x, l, v, a, c⟩) hk1
      have hX := (TBox.new W x a (lenF l) c).leaves hk1
      have cx2 := hX.c2
      clear hS1 hj1 hF hR hy cy cp hX hS hj
      have hn : lenF l ≤ 9223372036854775807 := by have := hT.sizes.len; have := hT.sizes.cap; unfold maxLen at *; omega
      gi_wp2
      gi_loopw [6, 7, 16] (fun _ _ i wr => ∃ k : Nat, k ≤ lenF l ∧ i = .int .i64 k ∧ ∃ ys v', J (pre ++ ⟨path, x, l, v, a, c⟩ :: ys) wr ∧ ys.map El.info ++ placesF path k (dropF k l) = placesF path 0 l ∧ St w0 b lp wr path v') (fun _ _ i _ => lenF l - (intOf i).toNat)
      case atStart => exact ⟨0, Nat.zero_le _, rfl, [], v, hJ1, by rw [drop_zero]; rfl, hS2⟩
      case round =>
        obtain ⟨j, hjn, rfl, ys, v2, hj2, hpl2, hS3⟩ := hrel
        by_cases hlt : j < lenF l
        · obtain ⟨bb, oo, rfl, hks⟩ := hT.args.get (by omega)
          obtain ⟨y, a1, c1, l1, kd⟩ := hks.kid (k := j) hlt
          have kd' := kd.below hS3.low
          have p0 := kd'.name; have p1 := kd'.sym; have p2 := kd'.list
          obtain ⟨B1, O1, sp⟩ := kd.split
          have hlen2 := congrArg List.length hpl2
          rw [List.length_append, List.length_map, places_len, places_len, sp, nodesF] at hlen2
          have hM2 := hJM _ _ hj2
          simp only [List.length_append, List.length_cons] at hM2
          have hM3 : path.length + 1 ≤ M := by omega
          have hb4 : Below wr.heap.size wr (wr.alloc (.cells #[.string y.1, .int .i64 y.2, .slice a1 (lenF l1) c1] 26)) := (Below.refl _ wr).alloc (Nat.le_refl _) _
          have hb5 : Below wr.heap.size wr ((wr.alloc (.cells #[.string y.1, .int .i64 y.2, .slice a1 (lenF l1) c1] 26)).alloc (.cells #[.int .i64 (j : Int)] 3)) := hb4.alloc (by simp) _
          have hS4 := hS3.below hb4
          have hS5 := hS3.below hb5
          have hbr : b ≤ wr.heap.size := Nat.le_of_lt hS3.y.lt
          have hm5 := Mv.of_below hb5 hbr
          have hnews : ∀ (i : Nat) (u : Value), [Value.int .i64 (j : Int)][i]? = some u → ((wr.alloc (.cells #[.string y.1, .int .i64 y.2, .slice a1 (lenF l1) c1] 26)).alloc (.cells #[.int .i64 (j : Int)] 3)).cell? ((⟨wr.heap.size + 1, 0, none⟩ : Addr).add i) = some u := by
            have h := World.news_of_block (heap_alloc_new (wr.alloc (.cells #[.string y.1, .int .i64 y.2, .slice a1 (lenF l1) c1] 26)) (.cells #[.int .i64 (j : Int)] 3))
            rw [World.size_alloc] at h
            exact h
          have hone : ∀ u ∈ [Value.int .i64 (j : Int)], u.oneCell' = true := by intro u hu; simp at hu; subst hu; rfl
          have tY : TBox ((wr.alloc (.cells #[.string y.1, .int .i64 y.2, .slice a1 (lenF l1) c1] 26)).alloc (.cells #[.int .i64 (j : Int)] 3)) wr.heap.size y a1 (lenF l1) c1 :=
            (TBox.new wr y a1 (lenF l1) c1).mv (Mv.of_below (B := 0) ((Below.refl _ _).alloc (Nat.le_refl _) _) (Nat.zero_le _))
          have cp4 := hS4.p.cell
          have hmax : maxLen = 9223372036854775807 := rfl
          have SP : Hid (dropF j l = .node B1 O1 y l1 (dropF (j + 1) l)) := sp
          have KD : Hid (Kid w0 l bb oo j y a1 c1 l1) := kd
          have PL2 : Hid (ys.map El.info ++ placesF path j (dropF j l) = placesF path 0 l) := hpl2
          clear kd kd' sp hpl2 hks
          gi_wp2_with (gi_at_builtin; refine wpListIn_append_own _ rfl _ _ 117 rfl b 3 i0 (.int .i64 0) 1 8 Try.underlying117 hi hz0 hz1 hz2 rfl (by decide) v2 path.length (intsV path) rfl hS5.row ⟨wr.heap.size + 1, 0, none⟩ 1 1 [.int .i64 (j : Int)] rfl rfl hnews hone (by omega) (by omega) (by simp; omega) ?_; intro v' w1 hown' hgrow _; obtain ⟨g', cap', rfl⟩ := ownsRow_succ hown'; obtain ⟨hp1, hm6, hS6⟩ := hS5.push hb0 hgrow hown'; have hc1 := hp1.cell; have hf1 := hp1.frozen; have cw6 := hS6.w.cell; have hm7 := hm5.trans (hm6.trans (Mv.box hp1 (by omega) (.slice (some ⟨g', 0, none⟩) (path.length + 1) cap'))); have tY2 := (tY.mv hm6).mv (Mv.box hp1 (B := b) (by omega) (.slice (some ⟨g', 0, none⟩) (path.length + 1) cap')); have ty0 := tY2.c0; have ty1 := tY2.c1; have ty2 := tY2.c2)
          refine ⟨trivial, ?_⟩
          have hjj := hJ _ _ _ hj2 hm7
          refine (callsIn_wide.2 (ih (nodesF l1) (by have := KD.out.less; omega) y l1 a1 c1 (path ++ [(j : Int)]) _ _ _ (Nat.le_refl _) KD.out.at_ hS6 hjj (by simp; omega) (by simp; omega))).mono ?_
          clear hS3 hS4 hS5 hm5 tY cp4 hp1 hm6 hS6 hc1 hf1 cw6 hm7 tY2 ty0 ty1 ty2 hjj hj2 hb4 hb5 hnews hgrow hown'
          rintro e W3 (⟨rfl, zs, v3, hj3, hz3, hS7⟩ | ⟨rfl, zs, hz3, hx3⟩)
          · obtain ⟨g3, cap3, rfl, hcap3, hcm3, hm8, hS8⟩ := hS7.pop hb0
            have cp7 := hS7.p.cell
            have fp7 := hS7.p.frozen
            have hjj := hJ _ _ _ hj3 hm8
            clear hS7 hj3
            gi_wp2
            refine ⟨⟨j + 1, by omega, by go_num, ys ++ zs, _, by simpa using hjj, ?_, hS8⟩, by simp [intOf]; omega⟩
            rw [List.map_append, hz3, ← PL2.out, SP.out, placesF, placesT]
            simp
          · gi_wp2
            refine bodyPost_ret (results_tmp rfl _ _ _) rfl ?_
            refine .inr ⟨rfl, ⟨path, x, l, v, _, c⟩ :: ys ++ zs, ?_, by simpa using hx3⟩
            rw [List.map_append, List.map_cons]
            obtain ⟨t, ht⟩ := hz3
            refine ⟨t ++ placesF path (j + 1) (dropF (j + 1) l), ?_⟩
            rw [placesT, ← PL2.out, SP.out, placesF, ← placesT, ← ht]
            simp [El.info]
        · gi_wp2
          refine bodyPost_ret (results_tmp rfl _ _ _) rfl ?_
          refine .inl ⟨rfl, _, v2, hj2, ?_, hS3⟩
          have e1 : j = lenF l := by omega
          rw [e1, drop_end, placesF, List.append_nil] at hpl2
          simp [placesT, El.info, ← hpl2]
    · gi_wp2
      refine bodyPost_ret (results_tmp rfl _ _ _) rfl ?_
      exact .inr ⟨rfl, [⟨path, x, l, v, a, c⟩], by simp [placesT, El.info], hx1⟩

set_option maxRecDepth 100000 in
set_option maxHeartbeats 2000000 in
theorem places1_seq (w0 w : World) (M Bt : Nat) (x : ByteArray × Int) (l : Fo) (a : Option Addr) (c : Nat) (hT : TmAt w0 x a c l) (hB : TBox w Bt x a (lenF l) c) (hw : Below w0.heap.size w0 w) (hM : (M + 1) * 8 ≤ 140737488355328) :
    SeqM Try.prog 95 #[.pointer (some ⟨Bt, 0, none⟩)] El.encs Handed (fun _ => Leaves w0.heap.size) (fun ys => ys.map El.info = placesT [] x l) (fun ys => ys.map El.info <+: placesT [] x l) (nodesF l + 1) M w := by
  intro lp J Jx W hW hJ hJx hJM hY h0
  have hBW : TBox W Bt x a (lenF l) c := (hW.block Bt (Array.getElem?_eq_some_iff.1 hB).1).trans hB
  have hlow : w0.heap.size ≤ W.heap.size := Nat.le_trans hw.size hW.size
  have hwalk := walk_any w0 W.heap.size lp (nodesF l + 1) M J Jx hlow hM hJ hJM hY (nodesF l)
  obtain ⟨W3, hW3⟩ : ∃ W3, ((W.alloc (.cells #[.func (.yield lp) #[] #[]] 134)).alloc (.cells #[.slice none 0 0] 117)).alloc (.cells #[.func (.func 96) #[] #[.pointer (some ⟨W.heap.size, 0, none⟩), .pointer (some ⟨W.heap.size + 1, 0, none⟩), .pointer (some ⟨W.heap.size + 1 + 1, 0, none⟩)]] 42) = W3 := ⟨_, rfl⟩
  have hb3 : Below W.heap.size W W3 := by rw [← hW3]; exact (((Below.refl _ W).alloc (Nat.le_refl _) _).alloc (by simp) _).alloc (by simp; omega) _
  have hS : St w0 W.heap.size lp W3 [] (.slice none 0 0) := by
    refine ⟨?_, ?_, ?_, World.ownsRow_nil _ _ _ _, hw.trans (hW.mono hw.size) |>.trans (hb3.mono hlow)⟩
    · rw [← hW3]; exact ((Boxed.new W 134 _).alloc _).alloc _
    · rw [← hW3]
      have := (Boxed.new (W.alloc (.cells #[.func (.yield lp) #[] #[]] 134)) 117 (.slice none 0 0)).alloc (.cells #[.func (.func 96) #[] #[.pointer (some ⟨W.heap.size, 0, none⟩), .pointer (some ⟨W.heap.size + 1, 0, none⟩), .pointer (some ⟨W.heap.size + 1 + 1, 0, none⟩)]] 42)
      rw [World.size_alloc] at this
      exact this
    · rw [← hW3]
      have := Boxed.new ((W.alloc (.cells #[.func (.yield lp) #[] #[]] 134)).alloc (.cells #[.slice none 0 0] 117)) 42 (.func (.func 96) #[] #[.pointer (some ⟨W.heap.size, 0, none⟩), .pointer (some ⟨W.heap.size + 1, 0, none⟩), .pointer (some ⟨W.heap.size + 1 + 1, 0, none⟩)])
      rw [World.size_alloc, World.size_alloc] at this
      exact this
  have hB3 : TBox W3 Bt x a (lenF l) c := (hb3.block Bt (Array.getElem?_eq_some_iff.1 hBW).1).trans hBW
  have t0 := hB3.c0; have t1 := hB3.c1; have t2 := hB3.c2
  have hj3 := hJ _ _ _ h0 (Mv.of_below hb3 (Nat.le_refl _))
  have hgo := hwalk x l a c [] [] (.slice none 0 0) W3 (Nat.le_refl _) hT hS hj3 (Nat.le_refl _) (by simp)
  clear hwalk hY hBW hB3 hS hj3 hJ hJx hJM h0
  subst hW3
  clear hb3
  go_enter Try.func95, Try.ntmps95
  go_wp2_with fail
  refine hgo.mono ?_
  rintro e W4 (⟨rfl, ys, v', hj4, hy4, _⟩ | ⟨rfl, ys, hy4, hx4⟩)
  · go_wp2
    go_end0
    exact ⟨⟨_, rfl⟩, .inl ⟨ys, hy4, by simpa using hj4⟩⟩
  · go_wp2
    go_end0
    exact ⟨⟨_, rfl⟩, .inr ⟨ys, hy4, by simpa using hx4⟩⟩

set_option maxHeartbeats 1000000 in
theorem places_any (x : ByteArray × Int) (a : Option Addr) (n c : Nat) (w : World) : Calls Try.prog 74 #[.agg #[.string x.1, .int .i64 x.2, .slice a n c]] w fun e w' =>
    e = .returned (.func (.func 95) #[] #[.pointer (some ⟨w.heap.size, 0, none⟩)]) ∧ w' = w.alloc (.cells #[.string x.1, .int .i64 x.2, .slice a n c] 26) := by
  go_enter Try.func74, Try.ntmps74
  go_wp2
  go_ret
  exact ⟨rfl, rfl⟩
end Go.Proofs.Ytfnfbljijkjkjaa
