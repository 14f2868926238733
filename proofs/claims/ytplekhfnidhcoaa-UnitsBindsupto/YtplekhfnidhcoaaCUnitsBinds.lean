/- For every signature, two terms and number, of bulk at most 1048576 together, UnitsBinds returns true: of right terms' units and variables each way is a substitution; the condition is the second form's bound. -/
import Derived.Test.YtplekhfnidhcoaaUnG
import Derived.Test.YtplekhfnidhcoaaUnC
import Derived.ProofKit
import Derived.OpenShut
import Derived.SizedLaws
import Derived.Test.YtplekhfnidhcoaaUnJ
import Derived.Test.YtplekhfnidhcoaaRows
import Derived.Test.YtplekhfnidhcoaaTMem
import Derived.Lib.SmallJoins
import Derived.ShutString
import Derived.ChangeOld
import Derived.SliceStrings
import Derived.ChangeMaps5
import Derived.JoinedCond
import Derived.Test.YtplekhfnidhcoaaSigMem
import Derived.Test.YtplekhfnidhcoaaKUnits
/- What UnitsGoes keeps as it goes. -/
namespace Go.Proofs.Ytplekhfnidhcoaa
open Go.RowKit Go.Shelf Go.Deep

/-- All that was there when All had been called is as it was; the box of its value; the list of deferred calls. -/
structure GoK (w3 : World) (E0 E1 : Nat) (W : World) : Prop where
  low : Below w3.heap.size w3 W
  s : Box W w3.heap.size 41 #[.func (.func 34) #[] #[.pointer (some ⟨E0, 0, none⟩), .pointer (some ⟨E1, 0, none⟩)]]
  df : W.heap[w3.heap.size + 2]? = some (.deferred (some []))
theorem GoK.fr {w3 : World} {E0 E1 : Nat} {W : World} (h : GoK w3 E0 E1 W) {A : Nat → Prop} {W' : World} (hf : Fr A W W') (hA : ∀ q, A q → w3.heap.size < q ∧ q ≠ w3.heap.size + 2) : GoK w3 E0 E1 W' :=
  ⟨h.low.trans (hf.below (fun q hq => Nat.le_of_lt (hA q hq).1) h.low.size), h.s.fr hf (fun a => by have := hA _ a; omega), (hf.same _ (Array.getElem?_eq_some_iff.1 h.df).1 (fun a => (hA _ a).2 rfl)).trans h.df⟩
theorem GoK.below {w3 : World} {E0 E1 : Nat} {W W' : World} (h : GoK w3 E0 E1 W) (hb : Below W.heap.size W W') : GoK w3 E0 E1 W' := h.fr (Fr.of_below (A := fun _ => False) hb) (fun _ hx => hx.elim)
/-- Behind k rounds. -/
def GoJ (w3 : World) (E0 E1 : Nat) (most : Int) (r : Loop) (k : Nat) (W : World) : Prop :=
  GoK w3 E0 E1 W ∧ Box W (w3.heap.size + 1) 3 #[.int .i64 (k : Int)] ∧ W.heap[w3.heap.size + 3]? = some (.loop r) ∧ (k : Int) < most
/-- Left early. -/
def GoX (w3 : World) (E0 E1 : Nat) (most : Int) (r : Loop) (M : Nat) (W : World) : Prop :=
  GoK w3 E0 E1 W ∧ Box W (w3.heap.size + 1) 3 #[.int .i64 most] ∧ W.heap[w3.heap.size + 3]? = some (.loop { r with state := .done, pending := some (.exit 0) }) ∧ most ≤ (M : Int)
theorem loop_below {W W' : World} {L : Nat} {r : Loop} (h : W.heap[L]? = some (.loop r)) (hb : Below W.heap.size W W') : W'.heap[L]? = some (.loop r) := (hb.block L (Array.getElem?_eq_some_iff.1 h).1).trans h
/-- A row that may be written to. -/
def SpAt (W : World) (g n : Nat) : Prop := ∃ cur : Array Value, W.heap[g]? = some (.cells cur 44 (0, 0)) ∧ n * 4 ≤ cur.size
theorem SpAt.cell {W : World} {g n : Nat} (h : SpAt W g n) (i : Nat) (hi : i < n) : ∃ u, W.cell? ⟨g, i * 4, none⟩ = some u := by
  obtain ⟨cur, h1, h2⟩ := h
  exact ⟨_, cell_box h1 (Array.getElem?_eq_getElem (by omega : i * 4 < cur.size))⟩
theorem SpAt.free {W : World} {g n : Nat} (h : SpAt W g n) (k : Nat) : W.frozen? ⟨g, k, none⟩ = false := by
  obtain ⟨cur, h1, _⟩ := h
  simp [World.frozen?, h1]
theorem SpAt.set {W : World} {g n : Nat} (h : SpAt W g n) (k : Nat) (v : Value) : SpAt (W.setCell ⟨g, k, none⟩ v) g n := by
  obtain ⟨cur, h1, h2⟩ := h
  exact ⟨_, block_set h1 v, by rw [Array.size_setIfInBounds]; exact h2⟩
theorem sp_of {W : World} {base g n cap : Nat} {l : List Bl} (h : BOwn W base (.slice (some ⟨g, 0, none⟩) n cap) l) : SpAt W g l.length := by
  rcases h.2 with ⟨h1, _⟩ | ⟨g', cap', cur, h1, h2, h3, h4, h5, h6, h7⟩
  · cases h1
  · cases h1
    exact ⟨cur, h3, by rw [h6]; exact Nat.mul_le_mul_right _ h4⟩
theorem SpAt.below {W W' : World} {g n : Nat} (h : SpAt W g n) (hb : Below W.heap.size W W') : SpAt W' g n := by
  obtain ⟨cur, h1, h2⟩ := h
  exact ⟨cur, (hb.block g (Array.getElem?_eq_some_iff.1 h1).1).trans h1, h2⟩
theorem wayO_ok {us : List Int} {vs : List ByteArray} {k : Nat} (h : k < (us.length + 1) ^ vs.length) : (wayO us vs (k : Int)).2 = true := by
  unfold wayO
  rw [if_neg (by omega), Int.toNat_natCast, if_pos (Nat.div_eq_of_lt h)]
theorem wayO_first (us : List Int) (vs : List ByteArray) : (wayO us vs 0).1 = [] := by
  unfold wayO
  rw [if_neg (by omega)]
  split
  · exact wayR_zero us _
  · rfl
/-- How many there are, of a small number at most. -/
theorem many_all {u n M : Nat} {most : Int} (hM : manyO u n 9223372036854775807 = (M : Int)) (h : (M : Int) < most) (h2 : most ≤ 200) : manyO u n most = (M : Int) := by
  unfold manyO at hM ⊢
  rw [if_neg (by omega)] at hM
  rw [if_neg (by omega)]
  by_cases h3 : ((u + 1) ^ n : Nat) ≤ (9223372036854775807 : Int).toNat
  · rw [if_pos h3] at hM
    rw [if_pos (by omega)]
    exact hM
  · rw [if_neg h3] at hM
    omega
theorem many_more {u n M : Nat} {most : Int} (hM : manyO u n 9223372036854775807 = (M : Int)) (h : most ≤ (M : Int)) (h1 : 1 ≤ most) : manyO u n most = most := by
  unfold manyO at hM ⊢
  rw [if_neg (by omega)] at hM
  rw [if_neg (by omega)]
  by_cases h3 : ((u + 1) ^ n : Nat) ≤ (9223372036854775807 : Int).toNat
  · rw [if_pos h3] at hM
    by_cases h4 : ((u + 1) ^ n : Nat) ≤ most.toNat
    · rw [if_pos h4]; omega
    · rw [if_neg h4]
  · rw [if_neg h3] at hM
    rw [if_neg (by omega)]
/-- A range within a round. -/
theorem range_inner {F : Fence} {n : Nat} {P : Program} {g : Operand} {ps : Array Tmp} {assign body : Code} {Q : Exit → Act → World → Prop} {a : Act} {w : World} {l0 : Nat} {r0 : Loop}
    (hro : F.round = some l0) (hr0 : w.heap[l0]? = some (.loop r0)) (h1 : 1 ≤ n) {gf : Nat} {lb : Array Value} (hg : a.eval g = .func (.func gf) #[] lb) (hFg : F.fn gf) (eg : ∀ args w, (callFunc gf args).run P w = .ok (.enter gf args) w)
    (hcall : ∀ r : Loop, r.state = .ready → r.pending = none → r.tmps = a.tmps → r.params = ps → r.assign = assign → r.body = body → F.fn r.fn →
      CallsIn F (n - 1) P gf (#[.func (.yield w.heap.size) #[] #[]] ++ lb) (w.alloc (.loop r)) fun e W => (∃ v, e = .returned v) ∧
        ((W.heap[w.heap.size]? = some (.loop r) ∧ Q .normal a (W.putObj w.heap.size (.loop { r with state := .exhausted }))) ∨
         (∃ c, W.heap[w.heap.size]? = some (.loop { r with state := .done, pending := some c }) ∧ c.wpIn F n P Q a (W.putObj w.heap.size (.loop { r with state := .exhausted, pending := some c }))))) :
    (Code.rangeFunc g ps assign body).wpIn F n P Q a w := by
  refine wpIn_rangeFunc ?_
  intro fn hfn
  rw [hro]
  let r : Loop := { state := .ready, pending := none, fn, tmps := a.tmps, params := ps, assign, body, defers := r0.defers }
  let W1 : World := w.alloc (.loop r)
  refine ⟨w.heap.size, [], W1, { target := .fn (.func gf) lb, args := #[.func (.yield w.heap.size) #[] #[]] }, W1, gf,
    #[.func (.yield w.heap.size) #[] #[]] ++ lb, W1, run_enterLoop_inner hr0 fn a.tmps ps assign body, ?_, ?_, ?_, fun _ => h1, ?_⟩
  · simp only [resolve, hg]
    simp [go_sem]
  · intro f' hf'; simp [Target.leads] at hf'; subst hf'; exact hFg
  · simp [invoke, go_sem, eg]
  · refine (hcall r rfl rfl rfl rfl rfl rfl hfn).mono ?_
    rintro e W ⟨⟨v, rfl⟩, (⟨hl, hq⟩ | ⟨c, hl, hq⟩)⟩
    · exact ⟨none, _, run_endLoop hl (by simp), hq⟩
    · exact ⟨some c, _, run_endLoop hl (by simp), hq⟩
end Go.Proofs.Ytplekhfnidhcoaa
/- UnitsBinds' walk. -/
namespace Go.Proofs.Ytplekhfnidhcoaa
open Go.RowKit Go.Shelf Go.Deep
theorem wayO_len (us : List Int) (vs : List ByteArray) (k : Int) (hk : k ≤ 9223372036854775807) : (wayO us vs k).1.length ≤ 63 := by
  unfold wayO
  split
  · simp
  split
  · exact wayR_small us _ _ (by omega)
  · simp
theorem rem_ok {M : Nat} {R B : Int} (hB : (M : Int) = B) (h1 : 1 ≤ M) (h2 : M ≤ 1099511627776) (h0 : 0 ≤ R) : ∃ (di : Int) (dn : Nat), R.tmod B = di ∧ wrap64 di = di ∧ di = (dn : Int) ∧ dn < M ∧ B ≠ 0 ∧ (B == 0) = false := by
  have hb : B ≠ 0 := by omega
  have hlt : R.toNat % M < M := Nat.mod_lt _ (by omega)
  refine ⟨((R.toNat % M : Nat) : Int), R.toNat % M, ?_, ?_, rfl, hlt, hb, beq_eq_false_iff_ne.2 hb⟩
  · rw [Int.tmod_eq_emod_of_nonneg h0, ← hB, Int.natCast_emod, Int.toNat_of_nonneg h0]
  · exact IntWalk.wrap64_in _ (by constructor <;> omega)
set_option maxRecDepth 100000 in
set_option maxHeartbeats 8000000 in
theorem binds_walk (p : Option Addr) (n c : Nat) (l : List Sym) (x1 : ByteArray × Int) (l1 : Fo) (a1 : Option Addr) (c1 : Nat) (x2 : ByteArray × Int) (l2 : Fo) (a2 : Option Addr) (c2 : Nat) (k : Int) (w : World) (hI : SigAt w p n l) (hn : n ≤ 1048576) (h1 : TmAt w x1 a1 c1 l1) (h2 : TmAt w x2 a2 c2 l2) (hk12 : nodesF l1 + nodesF l2 + 2 ≤ 1048576) (hk : Is64 k) :
    Calls Try.prog 7 #[.agg #[.slice p n c, .string x1.1, .int .i64 x1.2, .slice a1 (lenF l1) c1, .string x2.1, .int .i64 x2.2, .slice a2 (lenF l2) c2, .int .i64 k]] w fun e w' => e = .returned (.bool true) ∧ Below w.heap.size w w' := by
  have hk1 : nodesF l1 + 1 ≤ 1048576 := by omega
  have hk2 : nodesF l2 + 1 ≤ 1048576 := by omega
  have b0 := ((Box.new w 50 #[.slice p n c, .string x1.1, .int .i64 x1.2, .slice a1 (lenF l1) c1, .string x2.1, .int .i64 x2.2, .slice a2 (lenF l2) c2, .int .i64 k]))
  have f0 : _ = some _ := b0.c 0
  obtain ⟨W0, hW0⟩ : ∃ W, w.alloc (.cells #[.slice p n c, .string x1.1, .int .i64 x1.2, .slice a1 (lenF l1) c1, .string x2.1, .int .i64 x2.2, .slice a2 (lenF l2) c2, .int .i64 k] 50) = W := ⟨_, rfl⟩
  have hs0 : W0.heap.size = w.heap.size + 1 := by rw [← hW0]; simp
  have lo0 : Below w.heap.size w W0 := by rw [← hW0]; exact alloc_below0 _ _
  rw [hW0] at b0
  have f1 : _ = some _ := b0.c 1; have f2 : _ = some _ := b0.c 2; have f3 : _ = some _ := b0.c 3
  have e1 := Box.new W0 26 #[.string x1.1, .int .i64 x1.2, .slice a1 (lenF l1) c1]
  have e2 := Box.new (W0.alloc (.cells #[.string x1.1, .int .i64 x1.2, .slice a1 (lenF l1) c1] 26)) 26 #[.string x2.1, .int .i64 x2.2, .slice a2 (lenF l2) c2]
  rw [World.size_alloc, hs0] at e2
  rw [hs0] at e1
  have g0 := b0.over (.cells #[.string x1.1, .int .i64 x1.2, .slice a1 (lenF l1) c1] 26)
  have m4 : _ = some _ := g0.c 4; have m5 : _ = some _ := g0.c 5; have m6 : _ = some _ := g0.c 6
  have g1 := g0.over (.cells #[.string x2.1, .int .i64 x2.2, .slice a2 (lenF l2) c2] 26)
  have m7 : _ = some _ := g1.c 7
  have HX1 := hid (e1.over (.cells #[.string x2.1, .int .i64 x2.2, .slice a2 (lenF l2) c2] 26)); have HX2 := hid e2
  have HLO := hid ((lo0.alloc (o := .cells #[.string x1.1, .int .i64 x1.2, .slice a1 (lenF l1) c1] 26) lo0.size).alloc (o := .cells #[.string x2.1, .int .i64 x2.2, .slice a2 (lenF l2) c2] 26) (by rw [World.size_alloc]; have := lo0.size; omega))
  have HI := hid hI; have H1 := hid h1; have H2 := hid h2; have HKK := hid hk; have HLEN := hid hI.len
  have HW0 := hid hW0; have HS0 := hid hs0
  clear hI h1 h2 b0 e1 e2 g0 g1 lo0 hk hW0 hs0
  go_enter Try.func7, Try.ntmps7
  go_upto_region 2 with fail
  rw [HW0.out]
  clear f0 HW0
  go_upto_region 3 with fail
  clear f1 f2 f3
  go_upto_region 4 with fail
  clear m4 m5 m6
  generalize (W0.alloc (.cells #[.string x1.1, .int .i64 x1.2, .slice a1 (lenF l1) c1] 26)).alloc (.cells #[.string x2.1, .int .i64 x2.2, .slice a2 (lenF l2) c2] 26) = W2 at m7 HX1 HX2 HLO ⊢
  obtain ⟨Y, hY⟩ : ∃ Y, w.heap.size = Y := ⟨_, rfl⟩
  simp only [HS0.out, hY] at m7 HX1 HX2 HLO ⊢
  have HY := hid hY
  clear hY HS0
  go_wp2_with fail
  refine (head_any _).mono ?_
  rintro e w1 ⟨rfl, hb1⟩
  have hsz1 : Y + 1 + 1 + 1 ≤ W2.heap.size := by have := HX2.out.lt; omega
  have HGE := hid hsz1
  have HZ1 := hid (HX1.out.below hb1); have HZ2 := hid (HX2.out.below hb1); have HL1 := hid (HLO.out.trans (hb1.mono (by have := HX1.out.lt; omega)))
  have hsw1 : Y + 1 + 1 + 1 ≤ w1.heap.size := Nat.le_trans hsz1 hb1.size
  have HG1 := hid hsw1
  clear hb1 m7 HX1 HX2 HLO hsz1 hsw1 HGE
  have t0 : w1.cell? ⟨Y + 1, 0, none⟩ = some (.string x1.1) := HZ1.out.c 0
  have t1 : w1.cell? ⟨Y + 1, 1, none⟩ = some (.int .i64 x1.2) := HZ1.out.c 1
  have t2 : w1.cell? ⟨Y + 1, 2, none⟩ = some (.slice a1 (lenF l1) c1) := HZ1.out.c 2
  go_wp2_with fail
  refine (rright_any p n c l (x1, l1) a1 c1 w1 (HI.out.below (by rw [HY.out]; exact HL1.out)) (H1.out.below (by rw [HY.out]; exact HL1.out))).mono ?_
  rintro e w2 ⟨rfl, hb2⟩
  have HV1 := hid (HZ1.out.below hb2); have HV2 := hid (HZ2.out.below hb2); have HL2 := hid (HL1.out.trans (hb2.mono (by have := HG1.out; omega))); have HG2 := hid (Nat.le_trans HG1.out hb2.size)
  clear hb2 t0 t1 t2 HZ1 HZ2 HL1 HG1
  have t0 : w2.cell? ⟨Y + 1 + 1, 0, none⟩ = some (.string x2.1) := HV2.out.c 0
  have t1 : w2.cell? ⟨Y + 1 + 1, 1, none⟩ = some (.int .i64 x2.2) := HV2.out.c 1
  have t2 : w2.cell? ⟨Y + 1 + 1, 2, none⟩ = some (.slice a2 (lenF l2) c2) := HV2.out.c 2
  go_wp2_with fail
  refine (rright_any p n c l (x2, l2) a2 c2 w2 (HI.out.below (by rw [HY.out]; exact HL2.out)) (H2.out.below (by rw [HY.out]; exact HL2.out))).mono ?_
  rintro e w3 ⟨rfl, hb3⟩
  have HU1 := hid (HV1.out.below hb3); have HU2 := hid (HV2.out.below hb3); have HL3 := hid (HL2.out.trans (hb3.mono (by have := HG2.out; omega))); have HG3 := hid (Nat.le_trans HG2.out hb3.size)
  clear hb3 t0 t1 t2 HV1 HV2 HL2 HG2
  go_upto_region 8 with fail
  obtain ⟨r1, hr1⟩ : ∃ r, rightB l (x1, l1) = r := ⟨_, rfl⟩
  obtain ⟨r2, hr2⟩ : ∃ r, rightB l (x2, l2) = r := ⟨_, rfl⟩
  rw [hr1, hr2]
  have HR1 := hid hr1; have HR2 := hid hr2
  clear hr1 hr2
  cases r1
  · go_wp2
    go_ret
    exact ⟨rfl, by rw [HY.out]; exact HL3.out⟩
  cases r2
  · go_wp2
    go_ret
    exact ⟨rfl, by rw [HY.out]; exact HL3.out⟩
  have t0 : w3.cell? ⟨Y + 1, 0, none⟩ = some (.string x1.1) := HU1.out.c 0
  have t1 : w3.cell? ⟨Y + 1, 1, none⟩ = some (.int .i64 x1.2) := HU1.out.c 1
  have t2 : w3.cell? ⟨Y + 1, 2, none⟩ = some (.slice a1 (lenF l1) c1) := HU1.out.c 2
  have s0 : w3.cell? ⟨Y + 1 + 1, 0, none⟩ = some (.string x2.1) := HU2.out.c 0
  have s1 : w3.cell? ⟨Y + 1 + 1, 1, none⟩ = some (.int .i64 x2.2) := HU2.out.c 1
  have s2 : w3.cell? ⟨Y + 1 + 1, 2, none⟩ = some (.slice a2 (lenF l2) c2) := HU2.out.c 2
  go_wp2_with fail
  refine (of_any p n c l x1 l1 a1 c1 x2 l2 a2 c2 w3 (HI.out.below (by rw [HY.out]; exact HL3.out)) (by omega) (H1.out.below (by rw [HY.out]; exact HL3.out)) (H2.out.below (by rw [HY.out]; exact HL3.out))).mono ?_
  rintro e w4 ⟨q4, d4, rfl, hi4, hb4⟩
  have HT1 := hid (HU1.out.below hb4); have HT2 := hid (HU2.out.below hb4); have HL4 := hid (HL3.out.trans (hb4.mono (by have := HG3.out; omega))); have HG4 := hid (Nat.le_trans HG3.out hb4.size)
  have HI4 := hid hi4
  clear hb4 t0 t1 t2 s0 s1 s2 HU1 HU2 HL3 HG3 hi4
  go_upto_region 11 with fail
  have HL6 : Hid (Below w.heap.size w w4) := hid (by rw [HY.out]; exact HL4.out)
  have HSS : Hid (∀ V, Below w4.heap.size w4 V → (V.cell? ⟨Y + 1, 0, none⟩ = some (.string x1.1) ∧ V.cell? ⟨Y + 1, 1, none⟩ = some (.int .i64 x1.2) ∧ V.cell? ⟨Y + 1, 2, none⟩ = some (.slice a1 (lenF l1) c1) ∧ V.cell? ⟨Y + 1 + 1, 0, none⟩ = some (.string x2.1) ∧ V.cell? ⟨Y + 1 + 1, 1, none⟩ = some (.int .i64 x2.2) ∧ V.cell? ⟨Y + 1 + 1, 2, none⟩ = some (.slice a2 (lenF l2) c2))) := hid (fun V hV => ⟨(HT1.out.below hV).c 0, (HT1.out.below hV).c 1, (HT1.out.below hV).c 2, (HT2.out.below hV).c 0, (HT2.out.below hV).c 1, (HT2.out.below hV).c 2⟩)
  have hl1 := Nat.le_trans (compact_len (namesT x1 l1)) (namesT_len x1 l1); have hl2 := Nat.le_trans (compact_len (namesT x2 l2)) (namesT_len x2 l2)
  refine wp_region_held_drew (S := fun V => V.cell? ⟨Y + 1, 0, none⟩ = some (.string x1.1) ∧ V.cell? ⟨Y + 1, 1, none⟩ = some (.int .i64 x1.2) ∧ V.cell? ⟨Y + 1, 2, none⟩ = some (.slice a1 (lenF l1) c1) ∧ V.cell? ⟨Y + 1 + 1, 0, none⟩ = some (.string x2.1) ∧ V.cell? ⟨Y + 1 + 1, 1, none⟩ = some (.int .i64 x2.2) ∧ V.cell? ⟨Y + 1 + 1, 2, none⟩ = some (.slice a2 (lenF l2) c2)) (by kernel_rfl) (HSS.out _ (Below.refl _ _).drew) ?_
  intro hS
  refine wpAnyH_take (i := 0) (v := (.agg #[.string x1.1, .int .i64 x1.2, .slice a1 (lenF l1) c1])) rfl (by kernel_rfl) (by kernel_rfl) (by kernel_rfl) (fun _ _ _ h => h) (Or.inl ⟨by rfl, fun w' hw' => ?_⟩) hS ?_
  · obtain ⟨y0, y1, y2, _, _, _⟩ := hw'; go_simp
  try simp only [Act.put, List.getElem_toArray, List.getElem_cons_zero, List.setIfInBounds_toArray, List.set_cons_zero, List.set_cons_succ]
  refine wpAnyH_take (i := 2) (v := (.agg #[.string x2.1, .int .i64 x2.2, .slice a2 (lenF l2) c2])) rfl (by kernel_rfl) (by kernel_rfl) (by kernel_rfl) (fun _ _ _ h => h) (Or.inl ⟨by rfl, fun w' hw' => ?_⟩) hS ?_
  · obtain ⟨_, _, _, y0, y1, y2⟩ := hw'; go_simp
  try simp only [Act.put, List.getElem_toArray, List.getElem_cons_zero, List.getElem_cons_succ, List.setIfInBounds_toArray, List.set_cons_zero, List.set_cons_succ]
  refine wpAnyH_ready (rs := [1]) (by kernel_rfl) (by simp) ?_
  refine AllReadyH.cons rfl (fun K hK => ?_) AllReadyH.nil
  go_simp
  refine Calls.mono (rvars_any x1 l1 a1 c1 _ (H1.out.below (HL6.out.drew)) hk1) ?_
  rintro e w7 ⟨v7, rfl, ho7, hb7⟩
  have HB7 : Hid (Below w4.heap.size w4 w7) := hid (((Below.refl _ w4).drew).trans hb7)
  have HO7 : Hid (w7.ownsRow w4.heap.size 9 1 v7 _ _) := hid ho7
  clear ho7 hb7
  refine hK.out _ _ (HSS.out _ HB7.out) (fun hS => ?_)
  clear hK K
  try dsimp only
  refine wpAnyH_ready (rs := [3]) (by kernel_rfl) (by simp) ?_
  refine AllReadyH.cons rfl (fun K hK => ?_) AllReadyH.nil
  go_simp
  refine Calls.mono (rvars_any x2 l2 a2 c2 _ (H2.out.below (HL6.out.trans (HB7.out.mono HL6.out.size))) hk2) ?_
  rintro e w8 ⟨v8, rfl, ho8, hb8⟩
  have HB8 : Hid (Below w4.heap.size w4 w8) := hid (HB7.out.trans (hb8.mono HB7.out.size))
  have HO7b := hid (owns_block HO7.out (fun g hg => hb8.block g (by obtain ⟨cur, h1⟩ := (owns_cells HO7.out hg).2; exact (Array.getElem?_eq_some_iff.1 h1).1)))
  have hap := app_texts HO7b.out ho8 (by omega) (by omega) (Nat.le_trans HB7.out.size hb8.size)
  obtain ⟨p9, c9, w9, hr9, ho9, hg9⟩ := hap
  have HB9 : Hid (Below w4.heap.size w4 w9) := hid (HB8.out.trans ((fr_grown hg9).below (fun q hq => (owns_cells HO7b.out hq).1) HB8.out.size))
  have ho9b := ho9.1
  rw [List.length_append] at ho9b hr9
  have HR9 := hid hr9
  have HO9 := hid ho9b
  clear hr9 ho9 ho9b hg9 ho8 hb8 HO7 HO7b
  refine hK.out _ _ (HSS.out _ HB8.out) (fun hS => ?_)
  clear hK K
  try dsimp only
  refine wpAnyH_ready (rs := [4]) (by kernel_rfl) (by simp) ?_
  refine AllReadyH.cons rfl (fun K hK => ?_) AllReadyH.nil
  refine step_append_run (by rfl) (.tmp 46) (.tmp 48) 33 (by rfl) _ _ (by rfl) (by rfl) _ _ HR9.out ?_
  refine hK.out _ _ (HSS.out _ HB9.out) (fun hS => ?_)
  clear hK K HR9
  try dsimp only
  refine wpAnyH_ready (rs := [5]) (by kernel_rfl) (by simp) ?_
  refine AllReadyH.cons rfl (fun K hK => ?_) AllReadyH.nil
  go_simp
  refine Calls.mono (Names_any p9 _ c9 _ w9 HO9.out (by omega)) ?_
  rintro e w10 ⟨v10, rfl, ho10, hb10⟩
  have HB10 : Hid (Below w4.heap.size w4 w10) := hid (HB9.out.trans (hb10.mono HB9.out.size))
  have HO10 := hid ho10
  clear ho10 hb10
  refine hK.out _ _ (HSS.out _ HB10.out) (fun hS => ?_)
  clear hK K
  try dsimp only
  refine wpAnyH_take (i := 6) (v := (v10)) rfl (by kernel_rfl) (by kernel_rfl) (by kernel_rfl) (fun _ _ _ h => h) (Or.inl ⟨by rfl, fun w' hw' => ?_⟩) hS ?_
  · go_simp
  try simp only [Act.put, List.getElem_toArray, List.getElem_cons_zero, List.getElem_cons_succ, List.setIfInBounds_toArray, List.set_cons_zero, List.set_cons_succ]
  refine wpAnyH_done (by kernel_rfl) ?_ _
  clear hS HSS HT1 HT2
  obtain ⟨q9, d9, rfl, _, _, hT9, _, _⟩ := texts_of_owns HO10.out
  have hvl : (Lib.compact (sortL (Lib.compact (sortL (namesT x1 l1)) ++ Lib.compact (sortL (namesT x2 l2))))).length ≤ 1048576 := by
    refine Nat.le_trans (compact_len _) ?_
    rw [List.length_append]; omega
  have HV10 : Hid (StrsAt w10 q9 ((varsB x1 l1 x2 l2).map bytesOf)) := hid (texts_strs hT9 (Nat.le_trans hvl (by decide)))
  have HL10 : Hid (Below w.heap.size w w10) := hid (HL6.out.trans (HB10.out.mono HL6.out.size))
  have HI10 := hid (HI4.out.below HB10.out)
  have hV : (Lib.compact (sortL (Lib.compact (sortL (namesT x1 l1)) ++ Lib.compact (sortL (namesT x2 l2))))).length = ((varsB x1 l1 x2 l2).map bytesOf).length := by rw [List.length_map]; rfl
  rw [hV] at hvl ⊢
  clear hT9 hV HO10 HO9 HB10 HB9 HB8 HB7 HL6 HI4 HL4 HG4
  go_wp2_with fail
  obtain ⟨us, hus⟩ : ∃ us, refTo (onL (stB x1 l1 x2 l2) l) n = us := ⟨_, rfl⟩
  rw [hus] at HI10
  simp only [hus]
  have hul : us.length ≤ 17592186044416 := by rw [← hus]; exact Nat.le_trans (refTo_le _ _) (by omega)
  rw [List.length_map] at hvl
  have HUS := hid hus
  clear hus
  refine (many_any q4 us.length d4 q9 (varsB x1 l1 x2 l2).length d9 1099511627776 hul (by omega) (by unfold Is64; omega) w10).mono ?_
  rintro e w11 ⟨rfl, rfl⟩
  obtain ⟨M, hM, hM1, hM2, hM3⟩ := many_small us.length (varsB x1 l1 x2 l2).length
  rw [hM]
  have HM3 := hid hM3
  clear hM hM3
  obtain ⟨hka, hkb⟩ := HKK.out
  obtain ⟨B, hB⟩ : ∃ B : Int, (M : Int) = B := ⟨_, rfl⟩
  rw [hB]
  by_cases hk0 : k < 0
  · obtain ⟨kk, hkk⟩ : ∃ kk : Int, k + 1 = kk := ⟨_, rfl⟩
    obtain ⟨R, hR⟩ : ∃ R : Int, -kk = R := ⟨_, rfl⟩
    have e1 : wrap64 (k + 1) = kk := by rw [IntWalk.wrap64_in _ (by constructor <;> omega)]; exact hkk
    have e2 : wrap64 (-kk) = R := by rw [IntWalk.wrap64_in _ (by constructor <;> omega)]; exact hR
    have hR0 : 0 ≤ R := by omega
    have hR1 : R ≤ 9223372036854775807 := by omega
    have HKK2 := hid hkk; have HRR := hid hR
    clear hkk hR
    go_upto_region 15 with fail
    clear e1 e2
    have hkR : -(k + 1) = R := by rw [HKK2.out]; exact HRR.out
    simp only [hkR]
    clear hkR
    obtain ⟨di, dn, hrem, e3, hdi, hlt, hB0, hB1⟩ := rem_ok (R := R) hB hM1 hM2 hR0
    have hdl : di ≤ 1099511627776 := by omega
    have hd0 : 0 ≤ di := by omega
    have hok : (wayO us ((varsB x1 l1 x2 l2).map bytesOf) di).2 = true := by rw [hdi]; exact wayO_ok (by rw [List.length_map]; exact HM3.out _ hlt)
    have HWL := hid (wayO_len us ((varsB x1 l1 x2 l2).map bytesOf) di (Int.le_trans hdl (by decide)))
    have HW := way_any q4 d4 us q9 d9 ((varsB x1 l1 x2 l2).map bytesOf) di w11 HI10.out HV10.out hul (by rw [List.length_map]; omega) ⟨Int.le_trans (by decide) hd0, Int.le_trans hdl (by decide)⟩
    rw [List.length_map, hok] at HW
    have HWW := hid HW
    have HUL := hid hul; have HVL := hid hvl
    clear hB hdi hlt hok HW hM1 hM2 hR0 hR1 hka hkb hk0 hdl hd0 hul hvl
    go_wp2_with fail
    refine HWW.out.mono ?_
    rintro e w12 ⟨v, rfl, ho, hb12⟩
    obtain ⟨pb, cb, rfl⟩ := ho.form
    have HRD := hid (ho.rd (Nat.le_trans HWL.out (by decide)))
    have HL12 := hid (HL10.out.trans (hb12.mono HL10.out.size))
    have HGD : Hid (GoodB l (wayO us ((varsB x1 l1 x2 l2).map bytesOf) di).1) := hid (by rw [← HUS.out, HLEN.out]; exact way_good HR1.out HR2.out di)
    obtain ⟨bs, hbs⟩ : ∃ bs, (wayO us ((varsB x1 l1 x2 l2).map bytesOf) di).1 = bs := ⟨_, rfl⟩
    rw [hbs] at HRD HGD ⊢
    clear ho hb12 HWW HWL hbs
    go_wp2_with fail
    refine (risb_any p n c l pb cb bs w12 (HI.out.below HL12.out) HRD.out HGD.out).mono ?_
    rintro e w13 ⟨rfl, hb13⟩
    have HL13 := hid (HL12.out.trans (hb13.mono HL12.out.size))
    clear hb13
    go_wp2
    go_ret
    exact ⟨rfl, HL13.out⟩
  · obtain ⟨R, hR⟩ : ∃ R : Int, k = R := ⟨_, rfl⟩
    have hR0 : 0 ≤ R := by omega
    have hR1 : R ≤ 9223372036854775807 := by omega
    go_upto_region 15 with fail
    try simp only [hR]
    have HRR := hid hR
    clear hR
    obtain ⟨di, dn, hrem, e3, hdi, hlt, hB0, hB1⟩ := rem_ok (R := R) hB hM1 hM2 hR0
    have hdl : di ≤ 1099511627776 := by omega
    have hd0 : 0 ≤ di := by omega
    have hok : (wayO us ((varsB x1 l1 x2 l2).map bytesOf) di).2 = true := by rw [hdi]; exact wayO_ok (by rw [List.length_map]; exact HM3.out _ hlt)
    have HWL := hid (wayO_len us ((varsB x1 l1 x2 l2).map bytesOf) di (Int.le_trans hdl (by decide)))
    have HW := way_any q4 d4 us q9 d9 ((varsB x1 l1 x2 l2).map bytesOf) di w11 HI10.out HV10.out hul (by rw [List.length_map]; omega) ⟨Int.le_trans (by decide) hd0, Int.le_trans hdl (by decide)⟩
    rw [List.length_map, hok] at HW
    have HWW := hid HW
    have HUL := hid hul; have HVL := hid hvl
    clear hB hdi hlt hok HW hM1 hM2 hR0 hR1 hka hkb hk0 hdl hd0 hul hvl
    go_wp2_with fail
    refine HWW.out.mono ?_
    rintro e w12 ⟨v, rfl, ho, hb12⟩
    obtain ⟨pb, cb, rfl⟩ := ho.form
    have HRD := hid (ho.rd (Nat.le_trans HWL.out (by decide)))
    have HL12 := hid (HL10.out.trans (hb12.mono HL10.out.size))
    have HGD : Hid (GoodB l (wayO us ((varsB x1 l1 x2 l2).map bytesOf) di).1) := hid (by rw [← HUS.out, HLEN.out]; exact way_good HR1.out HR2.out di)
    obtain ⟨bs, hbs⟩ : ∃ bs, (wayO us ((varsB x1 l1 x2 l2).map bytesOf) di).1 = bs := ⟨_, rfl⟩
    rw [hbs] at HRD HGD ⊢
    clear ho hb12 HWW HWL hbs
    go_wp2_with fail
    refine (risb_any p n c l pb cb bs w12 (HI.out.below HL12.out) HRD.out HGD.out).mono ?_
    rintro e w13 ⟨rfl, hb13⟩
    have HL13 := hid (HL12.out.trans (hb13.mono HL12.out.size))
    clear hb13
    go_wp2
    go_ret
    exact ⟨rfl, HL13.out⟩
end Go.Proofs.Ytplekhfnidhcoaa
/- How numbers and texts that came in are opened. -/
namespace Go.Proofs.Ytplekhfnidhcoaa
open Go.ChangeShapes Go.WideShapes Go.ChangeAt Go.RowKit

theorem own : ownKnob Try.prog.godebug = none := by kernel_rfl
theorem laidOut : laidOutB Try.prog = true := by kernel_rfl
theorem Try.bytes3 : Try.prog.bytesOf 3 = 8 := by kernel_rfl
theorem Try.bytes9 : Try.prog.bytesOf 9 = 16 := by kernel_rfl
theorem Try.cells3 : Try.prog.cellsOf 3 = 1 := by kernel_rfl
theorem Try.cells9 : Try.prog.cellsOf 9 = 1 := by kernel_rfl
theorem list_of_each {α : Type} {p : Nat → α → Prop} : ∀ n : Nat, (∀ i, i < n → ∃ x, p i x) → ∃ l : List α, l.length = n ∧ ∀ i (h : i < l.length), p i l[i]
  | 0, _ => ⟨[], rfl, fun i h => absurd h (by simp)⟩
  | n + 1, h => by
    obtain ⟨l, hl, hp⟩ := list_of_each n (fun i hi => h i (by omega))
    obtain ⟨x, hx⟩ := h n (by omega)
    refine ⟨l ++ [x], by simp [hl], fun i hi => ?_⟩
    by_cases hin : i < l.length
    · rw [List.getElem_append_left hin]; exact hp i hin
    · have : i = n := by simp at hi; omega
      subst this
      rw [List.getElem_append_right (by omega)]
      simpa [hl] using hx
theorem addr_add {b off k : Nat} : (⟨b, off, none⟩ : Addr).add k = ⟨b, off + k, none⟩ := by rw [Addr.add_lit]
/-- Single cells of one kind: a slice's cells. -/
theorem cells_open {H : Type} {enc : TypeId × Value → H} {W : World} {t e : TypeId} (ht : Try.prog.underlying t = some (.slice e)) (he : Try.prog.cellsOf e = 1) {α : Type} {val : α → Value} {good : α → DataW H → Prop} (hv : ∀ {n : Nat} {cs : List Value} {x : DataW H × List MemPlace}, DataW.trod enc Try.prog W 0 (fun _ => true) true n e cs = some x → ∃ y, cs = [val y] ∧ good y x.1)
    {a : Option Addr} {len cap : Nat} {d : DataW H} {p : List MemPlace} (h : DataW.Trod enc Try.prog W 0 (fun _ => true) true t (.slice a len cap) d p) :
    (a = none → cap = 0) ∧ len ≤ maxLen ∧ (len = 0 ∨ ∃ el sp, d = .slice el sp ∧ len ≤ el.length + sp.length) ∧ ∃ l : List α, l.length = len ∧ ∀ i (hi : i < l.length), (∃ b o, a = some ⟨b, o, none⟩ ∧ W.cell? ⟨b, o + i, none⟩ = some (val l[i])) ∧ ∃ x, good l[i] x := by
  obtain ⟨fuel, hf⟩ := h
  rcases DataW.trod_slice ht hf with ⟨hcs, _⟩ | ⟨x, l, c, elems, rest, n, _, hcs, hx, hb, hl, hm, hlen, hel, _, _⟩
  · simp [Value.cells] at hcs
    obtain ⟨rfl, rfl, rfl⟩ := hcs
    exact ⟨fun _ => rfl, Nat.zero_le _, .inl rfl, [], rfl, fun i hi => absurd hi (by simp)⟩
  · simp [Value.cells] at hcs
    obtain ⟨rfl, rfl, rfl⟩ := hcs
    rw [he] at hel
    have hx1 := congrArg Prod.fst hx
    simp only at hx1
    refine ⟨fun h => (by cases h), by omega, .inr ⟨_, _, hx1, by simp; omega⟩, ?_⟩
    have each : ∀ i, i < len → ∃ y : α, ∃ cs z, W.cells? 0 (x.add (i * 1)) 1 = some cs ∧ cs = [val y] ∧ good y z := by
      intro i hi
      have h1 := hel i hi
      rw [List.getElem?_eq_getElem (by omega)] at h1
      cases hc : W.cells? 0 (x.add (i * 1)) 1 with
      | none => rw [hc] at h1; cases h1
      | some cs =>
        rw [hc] at h1
        obtain ⟨y, hy, hg⟩ := hv h1
        exact ⟨y, cs, _, rfl, hy, hg⟩
    obtain ⟨ll, hll, hp⟩ := list_of_each len each
    refine ⟨ll, hll, fun i hi => ?_⟩
    obtain ⟨cs, z, h1, h2, hg⟩ := hp i hi
    refine ⟨?_, z, hg⟩
    obtain ⟨b, off, spot⟩ := x
    have hspot : spot = none := by
      obtain ⟨cs0, z0, h10, h20, _⟩ := hp 0 (by omega)
      obtain ⟨_, _, h30⟩ := World.cells?_some h10
      have := h30 0 (by omega)
      rw [h20] at this
      simpa [Addr.add] using World.cell?_spot this
    subst hspot
    refine ⟨b, off, rfl, ?_⟩
    rw [addr_add, Nat.mul_one] at h1
    obtain ⟨_, _, h3⟩ := World.cells?_some h1
    subst h2
    have k0 := h3 0 (by omega)
    rw [addr_add] at k0
    exact k0
theorem int_open {H : Type} {enc : TypeId × Value → H} {W : World} {n : Nat} {cs : List Value} {x : DataW H × List MemPlace} (h : DataW.trod enc Try.prog W 0 (fun _ => true) true n 3 cs = some x) : ∃ y : Int, cs = [.int .i64 y] ∧ (-9223372036854775808 ≤ y ∧ y ≤ 9223372036854775807) := by
  obtain ⟨y, e1, _, hw⟩ := DataW.trod_int Try.underlying3 h
  refine ⟨y, e1, ?_⟩
  simp only [Lit.wf, Bool.and_eq_true, decide_eq_true_eq] at hw
  exact hw
theorem str_open {H : Type} {enc : TypeId × Value → H} {W : World} {n : Nat} {cs : List Value} {x : DataW H × List MemPlace} (h : DataW.trod enc Try.prog W 0 (fun _ => true) true n 9 cs = some x) : ∃ y : ByteArray, cs = [.string y] ∧ True := by
  obtain ⟨y, e1, _, _⟩ := DataW.trod_string Try.underlying9 h
  exact ⟨y, e1, trivial⟩
theorem ints_open {H : Type} {enc : TypeId × Value → H} {W : World} {a : Option Addr} {len cap : Nat} {d : DataW H} {p : List MemPlace} (h : DataW.Trod enc Try.prog W 0 (fun _ => true) true 29 (.slice a len cap) d p) :
    (len = 0 ∨ ∃ el sp, d = .slice el sp ∧ len ≤ el.length + sp.length) ∧ ∃ ns : List Int, ns.length = len ∧ IntsAt W a ns ∧ ∀ x ∈ ns, Is64 x := by
  obtain ⟨h1, h2, h3, l, hl, hp⟩ := cells_open (val := fun y : Int => Value.int .i64 y) (good := fun y _ => Is64 y) Try.underlying29 Try.cells3 (fun h => int_open h) h
  refine ⟨h3, l, hl, ⟨by omega, fun i hi => (hp i hi).1⟩, fun x hx => ?_⟩
  obtain ⟨i, hi, rfl⟩ := List.getElem_of_mem hx
  obtain ⟨_, z, hz⟩ := hp i hi
  exact hz
theorem strs_open {H : Type} {enc : TypeId × Value → H} {W : World} {a : Option Addr} {len cap : Nat} {d : DataW H} {p : List MemPlace} (h : DataW.Trod enc Try.prog W 0 (fun _ => true) true 33 (.slice a len cap) d p) :
    (len = 0 ∨ ∃ el sp, d = .slice el sp ∧ len ≤ el.length + sp.length) ∧ ∃ ns : List ByteArray, ns.length = len ∧ StrsAt W a ns := by
  obtain ⟨h1, h2, h3, l, hl, hp⟩ := cells_open (val := fun y : ByteArray => Value.string y) (good := fun _ _ => True) Try.underlying33 Try.cells9 (fun h => str_open h) h
  exact ⟨h3, l, hl, ⟨by omega, fun i hi => (hp i hi).1⟩⟩
theorem ints_sized {H : Type} {ts : List TypeId} {ds : List (DataW H)} {j len : Nat} {d : DataW H} (h : (DataW.weightsEach Try.prog ts ds).all (· ≤ reachBytes) = true) (ht : ts[j]? = some 29) (hd : ds[j]? = some d)
    (ho : len = 0 ∨ ∃ el sp, d = .slice el sp ∧ len ≤ el.length + sp.length) : len ≤ 17592186044416 := by
  rcases ho with rfl | ⟨el, sp, rfl, hle⟩
  · omega
  · have := sized_slice h ht hd Try.underlying29
    rw [Try.bytes3] at this
    have e : reachBytes = 140737488351232 := rfl
    rw [e] at this
    omega
theorem strs_sized {H : Type} {ts : List TypeId} {ds : List (DataW H)} {j len : Nat} {d : DataW H} (h : (DataW.weightsEach Try.prog ts ds).all (· ≤ reachBytes) = true) (ht : ts[j]? = some 33) (hd : ds[j]? = some d)
    (ho : len = 0 ∨ ∃ el sp, d = .slice el sp ∧ len ≤ el.length + sp.length) : len ≤ 17592186044416 := by
  rcases ho with rfl | ⟨el, sp, rfl, hle⟩
  · omega
  · have := sized_slice h ht hd Try.underlying33
    rw [Try.bytes9] at this
    have e : reachBytes = 140737488351232 := rfl
    rw [e] at this
    omega
theorem num_open {H : Type} {enc : TypeId × Value → H} {W : World} {y : Int} {d : DataW H} {p : List MemPlace} (h : DataW.Trod enc Try.prog W 0 (fun _ => true) true 3 (.int .i64 y) d p) : Is64 y := by
  obtain ⟨fuel, hf⟩ := h
  obtain ⟨z, e1, hz⟩ := int_open hf
  simp [Value.cells] at e1
  subst e1
  exact hz
end Go.Proofs.Ytplekhfnidhcoaa
/- How a term that came in is opened into a forest. -/
namespace Go.Proofs.Ytplekhfnidhcoaa
open Go.ChangeShapes Go.WideShapes Go.ChangeAt Go.RowKit Go.Deep

theorem Try.cells26 : Try.prog.cellsOf 26 = 3 := by kernel_rfl
theorem Try.cells24 : Try.prog.cellsOf 24 = 1 := by kernel_rfl
theorem Try.bytes26 : Try.prog.bytesOf 26 = 48 := by kernel_rfl


/-- Small enough, by one of the two forms' bounds. -/
def Sz {H : Type} (d : DataW H) : Prop := (∀ m ∈ d.weights Try.prog 26, m ≤ 140737488351232) ∨ Rows.uptoBulk d ≤ 1048576
theorem weights_all {H : Type} {e : TypeId} {m : Nat} : ∀ {ds : List (DataW H)} {d : DataW H}, d ∈ ds → m ∈ d.weights Try.prog e → m ∈ DataW.weightsAll Try.prog e ds
  | d' :: r, d, hd, hm => by
    simp only [DataW.weightsAll, List.mem_append]
    rcases List.mem_cons.1 hd with rfl | h
    · exact .inl hm
    · exact .inr (weights_all h hm)
theorem bulk_all {H : Type} : ∀ {ds : List (DataW H)} {d : DataW H}, d ∈ ds → Rows.uptoBulk d ≤ Rows.uptoBulkAll ds
  | d' :: r, d, hd => by
    simp only [Rows.uptoBulkAll]
    rcases List.mem_cons.1 hd with rfl | h
    · omega
    · have := bulk_all h; omega
theorem bulk_pos {H : Type} (d : DataW H) : 1 ≤ Rows.uptoBulk d := by
  cases d with
  | lit l => cases l <;> simp [Rows.uptoBulk]
  | _ => simp [Rows.uptoBulk]
theorem bulk_len {H : Type} : ∀ ds : List (DataW H), ds.length ≤ Rows.uptoBulkAll ds
  | [] => Nat.le_refl _
  | d :: r => by
    have := bulk_len r
    have := bulk_pos d
    simp only [Rows.uptoBulkAll, List.length_cons]; omega

/-- Terms side by side make a forest. -/
theorem forest_of {H : Type} {W : World} {b : Nat} : ∀ (ds : List (DataW H × List MemPlace)) (o : Nat),
    (∀ (i : Nat) (h : i < ds.length), ∃ (p : ByteArray × Int) (a : Option Addr) (c : Nat) (l : Fo), (W.cell? ⟨b, o + i * 3, none⟩ = some (.string p.1) ∧ W.cell? ⟨b, o + i * 3 + 1, none⟩ = some (.int .i64 p.2) ∧ W.cell? ⟨b, o + i * 3 + 2, none⟩ = some (.slice a (lenF l) c)) ∧ TmAt W p a c l ∧ nodesF l + 1 ≤ Rows.uptoBulk ds[i].1) →
    ∃ F : Fo, lenF F = ds.length ∧ KidsAt W F b o ∧ nodesF F ≤ Rows.uptoBulkAll (ds.map (·.1))
  | [], o, _ => ⟨.nil, rfl, trivial, Nat.zero_le _⟩
  | d :: r, o, h => by
    obtain ⟨F, hl, hk, hn⟩ := forest_of r (o + 3) (fun i hi => by
      obtain ⟨p, a, c, l, ⟨h0, h1, h2⟩, h3, h4⟩ := h (i + 1) (by simpa using hi)
      rw [show o + (i + 1) * 3 = o + 3 + i * 3 by omega] at h0 h1 h2
      exact ⟨p, a, c, l, ⟨h0, h1, h2⟩, h3, h4⟩)
    obtain ⟨p, a, c, l, ⟨h0, h1, h2⟩, h3, h4⟩ := h 0 (by simp)
    simp only [Nat.zero_mul, Nat.add_zero, List.getElem_cons_zero] at h0 h1 h2 h4
    refine ⟨.node 0 0 p l F, by simp [lenF, hl], ⟨⟨a, c, h0, h1, h2, h3.sizes, h3.args⟩, hk⟩, ?_⟩
    simp only [nodesF, List.map_cons, Rows.uptoBulkAll]
    omega

set_option maxRecDepth 100000 in
theorem term_open {H : Type} {enc : TypeId × Value → H} {W : World} : ∀ (fuel : Nat) (cs : List Value) (x : DataW H × List MemPlace), DataW.trod enc Try.prog W 0 (fun _ => true) true fuel 26 cs = some x → Sz x.1 →
    ∃ (p : ByteArray × Int) (a : Option Addr) (c : Nat) (l : Fo), cs = [.string p.1, .int .i64 p.2, .slice a (lenF l) c] ∧ TmAt W p a c l ∧ nodesF l + 1 ≤ Rows.uptoBulk x.1 := by
  intro fuel
  induction fuel using Nat.strongRecOn with
  | _ fuel ih =>
    intro cs x h hz
    obtain ⟨xs, n, hfuel, hx, hl, hlen, hf⟩ := DataW.trod_struct Try.underlying26 h
    rw [Try.cells26] at hl
    match xs, hlen, cs, hl with
    | [y0, y1, y2], _, [v0, v1, v2], _ =>
      have g0 := hf 0 _ rfl
      have g1 := hf 1 _ rfl
      have g2 := hf 2 _ rfl
      simp [Try.cells9, Try.cells3, Try.cells24] at g0 g1 g2
      obtain ⟨s0, e0, k0, f0⟩ := DataW.trod_string Try.underlying9 g0
      obtain ⟨n1, e1, k1, _⟩ := DataW.trod_int Try.underlying3 g1
      simp at e0 e1
      subst e0 e1 hx
      rcases DataW.trod_slice Try.underlying24 g2 with ⟨hcs, h2⟩ | ⟨ad, len, c, elems, rest, n', hn', hcs, h2, _, hlc, hcm, hlen2, hel, _, _⟩
      · simp at hcs
        subst hcs
        exact ⟨(s0, n1), none, 0, .nil, rfl, ⟨⟨f0, by simp [lenF], by simp, by simp [lenF]⟩, .inl rfl⟩, by simp [nodesF, Rows.uptoBulk, Rows.uptoBulkAll]⟩
      · simp at hcs
        subst hcs
        rw [Try.cells26] at hel
        have hb2 : Rows.uptoBulkAll (elems.map (·.1)) + 1 ≤ Rows.uptoBulk (DataW.agg (List.map (·.1) [y0, y1, y2])) := by
          simp only [List.map_cons, List.map_nil, Rows.uptoBulk, Rows.uptoBulkAll, h2]; omega
        have hsub : ∀ d ∈ elems, Sz d.1 := by
          intro d hd
          rcases hz with hz | hz
          · refine .inl fun m hm => hz m ?_
            have : m ∈ DataW.weightsAll Try.prog 26 (elems.map (·.1)) := weights_all (List.mem_map_of_mem hd) hm
            simp [DataW.weights, Try.underlying26, DataW.weightsEach, h2, Try.underlying24, this]
          · refine .inr ?_
            have := bulk_all (List.mem_map_of_mem (f := (·.1)) hd)
            simp only at hz
            omega
        have hfew : len * 48 ≤ 140737488351232 := by
          rcases hz with hz | hz
          · have := hz ((elems.length + rest.length) * 48) (by simp [DataW.weights, Try.underlying26, DataW.weightsEach, h2, Try.underlying24, Try.bytes26])
            rw [hlen2] at this
            omega
          · have := bulk_len (elems.map (·.1))
            rw [List.length_map, hlen2] at this
            simp only at hz
            omega
        have each : ∀ i (hi : i < elems.length), ∃ (p : ByteArray × Int) (a : Option Addr) (c : Nat) (l : Fo), W.cells? 0 (ad.add (i * 3)) 3 = some [.string p.1, .int .i64 p.2, .slice a (lenF l) c] ∧ TmAt W p a c l ∧ nodesF l + 1 ≤ Rows.uptoBulk elems[i].1 := by
          intro i hi
          have h1 := hel i (by omega)
          rw [List.getElem?_eq_getElem hi] at h1
          cases hc : W.cells? 0 (ad.add (i * 3)) 3 with
          | none => rw [hc] at h1; cases h1
          | some cs' =>
            rw [hc] at h1
            obtain ⟨p, a, c, l, rfl, h3, h4⟩ := ih n' (by omega) cs' elems[i] h1 (hsub _ (List.getElem_mem hi))
            exact ⟨p, a, c, l, rfl, h3, h4⟩
        by_cases hz0 : len = 0
        · subst hz0
          exact ⟨(s0, n1), some ad, c, .nil, rfl, ⟨⟨f0, by simp [lenF], hcm, by simp [lenF]⟩, .inl rfl⟩, by simp only [nodesF]; omega⟩
        · obtain ⟨b, off, spot⟩ := ad
          have hspot : spot = none := by
            obtain ⟨p, a, c, l, h3, _⟩ := each 0 (by omega)
            obtain ⟨_, _, h30⟩ := World.cells?_some h3
            have := h30 0 (by omega)
            simpa [Addr.add] using World.cell?_spot this
          subst hspot
          obtain ⟨F, hFl, hFk, hFn⟩ := forest_of (W := W) (b := b) elems off (fun i hi => by
            obtain ⟨p, a, c, l, h3, h4, h5⟩ := each i hi
            rw [addr_add] at h3
            obtain ⟨_, _, h30⟩ := World.cells?_some h3
            have q0 := h30 0 (by omega)
            have q1 := h30 1 (by omega)
            have q2 := h30 2 (by omega)
            rw [addr_add] at q0 q1 q2
            exact ⟨p, a, c, l, ⟨q0, q1, q2⟩, h4, h5⟩)
          have hFl' : lenF F = len := by rw [hFl, hlen2]
          exact ⟨(s0, n1), some ⟨b, off, none⟩, c, F, by rw [hFl'], ⟨⟨f0, by omega, hcm, by rw [hFl']; exact hfew⟩, .inr ⟨b, off, rfl, hFk⟩⟩, Nat.le_trans (Nat.succ_le_succ hFn) hb2⟩

set_option maxRecDepth 100000 in
/-- A term that came in. -/
theorem termv_open {H : Type} {enc : TypeId × Value → H} {W : World} {r : Reach} {b0 : Nat} {v : Value} {d : DataW H} {ps : List MemPlace} (hv : Value.okWide Try.prog W r b0 26 v)
    (h : DataW.Trod enc Try.prog W 0 (fun _ => true) true 26 v d ps) (hz : Sz d) :
    ∃ (p : ByteArray × Int) (a : Option Addr) (c : Nat) (l : Fo), v = .agg #[.string p.1, .int .i64 p.2, .slice a (lenF l) c] ∧ TmAt W p a c l ∧ nodesF l + 1 ≤ Rows.uptoBulk d := by
  obtain ⟨cs, rfl, hsz⟩ := okWide_struct Try.underlying26 hv
  obtain ⟨c0, c1, c2, rfl⟩ := Joins.array3 (hsz.trans Try.cells26)
  obtain ⟨fuel, hf⟩ := h
  obtain ⟨p, a, c, l, hcs, h1, h2⟩ := term_open fuel _ _ hf hz
  simp [Value.cells] at hcs
  obtain ⟨rfl, rfl, rfl⟩ := hcs
  exact ⟨p, a, c, l, rfl, h1, h2⟩
/-- Within the first form's reach. -/
theorem sz_of_weights {H : Type} {ts : List TypeId} {ds : List (DataW H)} {j : Nat} {d : DataW H} (h : (DataW.weightsEach Try.prog ts ds).all (· ≤ reachBytes) = true) (ht : ts[j]? = some 26) (hd : ds[j]? = some d) : Sz d :=
  .inl fun m hm => by
    have := List.all_eq_true.1 h _ (DataW.weights_mem_each ht hd m hm)
    have e : reachBytes = 140737488351232 := rfl
    rw [e] at this
    simpa using this

end Go.Proofs.Ytplekhfnidhcoaa
/- How a signature and an equation that came in are opened. -/
namespace Go.Proofs.Ytplekhfnidhcoaa
open Go.ChangeShapes Go.WideShapes Go.ChangeAt Go.RowKit Go.Deep

set_option maxRecDepth 100000 in
theorem Try.cells80 : Try.prog.cellsOf 80 = 4 := by kernel_rfl
set_option maxRecDepth 100000 in
theorem Try.cells78 : Try.prog.cellsOf 78 = 1 := by kernel_rfl
set_option maxRecDepth 100000 in
theorem Try.bytes80 : Try.prog.bytesOf 80 = 48 := by kernel_rfl

set_option maxRecDepth 100000 in
/-- One symbol's reading. -/
theorem sym_open {H : Type} {enc : TypeId × Value → H} {W : World} {base : Nat} {spare : Nat → Bool} {held : Bool} {fuel : Nat} {cs : List Value} {x : DataW H × List MemPlace}
    (h : DataW.trod enc Try.prog W base spare held fuel 80 cs = some x) : ∃ y : Sym, cs = [.string y.name, .int .i64 y.kind, .int .i64 y.arity, .string y.unit] ∧ y.Fits := by
  obtain ⟨y0, y1, y2, y3, n, _, hl, h0, h1, h2, h3⟩ := Joins.trod_struct4 Try.underlying80 h
  rw [Try.cells80] at hl
  simp only [Try.cells9, Try.cells78, Try.cells3] at h0 h1 h2 h3
  match cs, hl with
  | [c0, c1, c2, c3], _ =>
    obtain ⟨s0, e0, _, f0⟩ := DataW.trod_string Try.underlying9 h0
    obtain ⟨n1, e1, _, _⟩ := DataW.trod_int Try.underlying78 h1
    obtain ⟨n2, e2, _, _⟩ := DataW.trod_int Try.underlying3 h2
    obtain ⟨s3, e3, _, f3⟩ := DataW.trod_string Try.underlying9 h3
    simp at e0 e1 e2 e3
    subst e0 e1 e2 e3
    exact ⟨⟨s0, n1, n2, s3⟩, rfl, f0, f3⟩

set_option maxRecDepth 100000 in
theorem sig_open {H : Type} {enc : TypeId × Value → H} {W : World} {fuel : Nat} {v : Value} {y : DataW H × List MemPlace}
    (hf : DataW.trod enc Try.prog W 0 (fun _ => true) true fuel 23 [v] = some y) :
    ∃ a len cap l, v = .slice a len cap ∧ SigAt W a len l ∧ len ≤ cap := by
  rcases DataW.trod_slice Try.underlying23 hf with ⟨hcs, _⟩ | ⟨x, len, cap, elems, rest, n, _, hcs, hx, hb, hl, hm, hlen, hel, _, _⟩
  · simp at hcs
    subst hcs
    exact ⟨none, 0, 0, [], rfl, ⟨rfl, by simp, fun i hi => absurd hi (by simp), fun s hs => absurd hs (by simp)⟩, Nat.le_refl _⟩
  · simp at hcs
    subst hcs
    rw [Try.cells80] at hel
    have each : ∀ i, i < len → ∃ y : Sym, (∃ cs, W.cells? 0 (x.add (i * 4)) 4 = some cs ∧ cs = [.string y.name, .int .i64 y.kind, .int .i64 y.arity, .string y.unit]) ∧ y.Fits := by
      intro i hi
      have h1 := hel i hi
      rw [List.getElem?_eq_getElem (by omega)] at h1
      cases hc : W.cells? 0 (x.add (i * 4)) 4 with
      | none => rw [hc] at h1; cases h1
      | some cs =>
        rw [hc] at h1
        obtain ⟨y, hy, hyf⟩ := sym_open h1
        exact ⟨y, ⟨cs, rfl, hy⟩, hyf⟩
    obtain ⟨ll, hll, hp⟩ := list_of_each len each
    refine ⟨some x, len, cap, ll, rfl, ⟨hll.symm, by omega, fun i hi => ?_, fun y hy => ?_⟩, hl⟩
    · obtain ⟨⟨cs, h1, h2⟩, _⟩ := hp i hi
      obtain ⟨b, off, spot⟩ := x
      have hspot : spot = none := by
        obtain ⟨⟨cs0, h10, h20⟩, _⟩ := hp 0 (by omega)
        obtain ⟨_, _, h30⟩ := World.cells?_some h10
        have := h30 0 (by omega)
        rw [h20] at this
        simpa [Addr.add] using World.cell?_spot this
      subst hspot
      refine ⟨b, off, rfl, ?_⟩
      rw [addr_add] at h1
      obtain ⟨_, _, h3⟩ := World.cells?_some h1
      subst h2
      have k0 := h3 0 (by omega)
      have k1 := h3 1 (by omega)
      have k2 := h3 2 (by omega)
      have k3 := h3 3 (by omega)
      rw [addr_add] at k0 k1 k2 k3
      exact ⟨k0, k1, k2, k3⟩
    · obtain ⟨i, hi, rfl⟩ := List.getElem_of_mem hy
      exact (hp i hi).2


set_option maxRecDepth 100000 in
theorem sig_full {H : Type} {enc : TypeId × Value → H} {W : World} {v : Value} {dd : DataW H} {ps : List MemPlace} (hc : v.cells.toList = [v])
    (h : DataW.Trod enc Try.prog W 0 (fun _ => true) true 23 v dd ps) (hz : Rows.uptoBulk dd ≤ 1048576) :
    ∃ a len cap l, v = .slice a len cap ∧ SigAt W a len l ∧ len ≤ cap ∧ len ≤ 1048576 := by
  obtain ⟨fuel, hf⟩ := h
  rw [hc] at hf
  obtain ⟨a, len, cap, l, rfl, hS, hcap⟩ := sig_open hf
  refine ⟨a, len, cap, l, rfl, hS, hcap, ?_⟩
  rcases DataW.trod_slice Try.underlying23 hf with ⟨hcs, _⟩ | ⟨x, len2, cap2, elems, rest, n, _, hcs, hx, hb, hl, hm, hlen, hel, _, _⟩
  · simp at hcs
    omega
  · simp at hcs
    obtain ⟨rfl, rfl, rfl⟩ := hcs
    have := congrArg Prod.fst hx
    simp only at this
    rw [this] at hz
    simp only [Rows.uptoBulk] at hz
    have := bulk_len (elems.map (·.1))
    rw [List.length_map] at this
    omega

end Go.Proofs.Ytplekhfnidhcoaa
namespace Go.Proofs.Ytplekhfnidhcoaa
open Go.ChangeShapes Go.WideShapes Go.ChangeAt Go.RowKit Go.Deep

set_option maxRecDepth 100000 in
theorem Try.cells23 : Try.prog.cellsOf 23 = 1 := by kernel_rfl
set_option maxRecDepth 100000 in
theorem Try.cells50 : Try.prog.cellsOf 50 = 8 := by kernel_rfl
set_option maxRecDepth 100000 in
theorem given_open {H : Type} {enc : TypeId × Value → H} {W : World} {r : Reach} {b0 : Nat} {v : Value} {dd : DataW H} {ps : List MemPlace} (hv : Value.okWide Try.prog W r b0 50 v)
    (h : DataW.Trod enc Try.prog W 0 (fun _ => true) true 50 v dd ps) (hz : Rows.uptoBulk dd ≤ 1048576) :
    ∃ (p : Option Addr) (n c : Nat) (l : List Sym) (x1 : ByteArray × Int) (l1 : Fo) (a1 : Option Addr) (c1 : Nat) (x2 : ByteArray × Int) (l2 : Fo) (a2 : Option Addr) (c2 : Nat) (k : Int),
      v = .agg #[.slice p n c, .string x1.1, .int .i64 x1.2, .slice a1 (lenF l1) c1, .string x2.1, .int .i64 x2.2, .slice a2 (lenF l2) c2, .int .i64 k] ∧ SigAt W p n l ∧ n ≤ 1048576 ∧ TmAt W x1 a1 c1 l1 ∧ TmAt W x2 a2 c2 l2 ∧ nodesF l1 + nodesF l2 + 2 ≤ 1048576 ∧ Is64 k := by
  obtain ⟨cs, rfl, hsz⟩ := okWide_struct Try.underlying50 hv
  obtain ⟨fuel, hf⟩ := h
  obtain ⟨xs, n, hfuel, hx, hl, hlen, hff⟩ := DataW.trod_struct Try.underlying50 hf
  rw [Try.cells50] at hsz
  simp only [Value.cells] at hff hl
  obtain ⟨cl⟩ := cs
  match xs, hlen, cl, hsz with
  | [y0, y1, y2, y3], _, [v0, v1, v2, v3, v4, v5, v6, v7], _ =>
    have g0 := hff 0 _ rfl
    have g1 := hff 1 _ rfl
    have g2 := hff 2 _ rfl
    have g3 := hff 3 _ rfl
    simp [Try.cells23, Try.cells26, Try.cells3] at g0 g1 g2 g3
    have hd : Rows.uptoBulk y0.1 + Rows.uptoBulk y1.1 + Rows.uptoBulk y2.1 + 1 ≤ 1048576 := by
      have := congrArg Prod.fst hx
      simp only at this
      rw [this] at hz
      simp only [List.map_cons, List.map_nil, Rows.uptoBulk, Rows.uptoBulkAll] at hz
      omega
    obtain ⟨q0, ln0, cp0, _, e0, _, _⟩ := sig_open g0
    subst e0
    obtain ⟨p, len, cap, l, e0, hS, _, hn⟩ := sig_full (v := .slice q0 ln0 cp0) (dd := y0.1) (ps := y0.2) rfl ⟨n, g0⟩ (by omega)
    cases e0
    obtain ⟨pa, a, c, la, ea, hA, na⟩ := term_open n _ _ g1 (.inr (by omega))
    obtain ⟨pb, b, d, lb, eb, hB, nb⟩ := term_open n _ _ g2 (.inr (by omega))
    obtain ⟨k, ek, hk⟩ := int_open g3
    simp at ea eb ek
    obtain ⟨rfl, rfl, rfl⟩ := ea
    obtain ⟨rfl, rfl, rfl⟩ := eb
    subst ek
    exact ⟨q0, ln0, cp0, l, pa, la, a, c, pb, lb, b, d, k, rfl, hS, hn, hA, hB, by omega, hk⟩
set_option maxRecDepth 100000 in
theorem unitsBinds_contract (H : Type) (enc : TypeId × Value → H) (W : World) (base : Nat) (args : Array Value) (ds gs : List (DataW H)) (before : List MemPlace)
    (hval : ∀ (j : Nat) t v, Try.f7.params[j]? = some t → args[j]? = some v → Value.okWide Try.prog W .any base t v)
    (hW : DataW.Whole enc Try.prog Try.f7.params.toList Rows.unitsBindsSpec.vars false W args.toList ds gs before) (hk : Rows.uptoSmall H (ds ++ gs) = true) :
    Calls Try.prog 7 args W fun e W' => ∃ v, e = .returned v ∧ Rows.unitsBindsSpec.post enc Try.prog Try.f7 false true false false W args v W' := by
  have hW' := hW
  obtain ⟨p, q, hA0, hV, rfl, hfz, hnd⟩ := hW
  have hA : DataW.TrodAll enc Try.prog W 0 (fun _ => true) true Try.f7.params.toList args.toList ds p := hA0
  rw [Try.params7] at hA hval
  obtain ⟨v0, vs0, d0, ds0, p0, q0, hargs, rfl, rfl, h0, r0⟩ := trodAll_cons hA
  obtain ⟨rfl, rfl, rfl⟩ := trodAll_nil r0
  obtain rfl : args = #[v0] := by cases args; simp_all
  obtain ⟨rfl, rfl⟩ := trodVars_none hV
  have lt0 : ∀ x ∈ p0, x.block < W.heap.size := by obtain ⟨m, hm⟩ := h0; exact DataW.trod_lt m _ _ _ hm
  have hbulk : Rows.uptoBulk d0 ≤ 1048576 := by
    have h : Rows.uptoBulkAll ([d0] ++ []) ≤ 1048576 := of_decide_eq_true hk
    simp only [List.append_nil, Rows.uptoBulkAll] at h
    omega
  obtain ⟨p, n, c, l, x1, l1, a1, c1, x2, l2, a2, c2, k, rfl, hS, hn, hT1, hT2, hk12, hk64⟩ := given_open (hval 0 50 v0 rfl rfl) h0 hbulk
  clear hA0
  refine (binds_walk p n c l x1 l1 a1 c1 x2 l2 a2 c2 k W hS hn hT1 hT2 hk12 hk64).mono fun e W' ⟨he, bel⟩ => ?_
  subst he
  exact ⟨_, rfl, _, _, _, [], _, [], hW', trodAll_mk1 (shut_bool Try.underlying4 _), (trodAll_cons_mk (Below.trod laidOut (by kernel_rfl) (of_decide_eq_true (by kernel_rfl)) h0 bel lt0) trodAll_mk0), rfl, bel.frame _, fun h => by cases h⟩

set_option maxRecDepth 100000 in
theorem unitsBinds_lifted (os : Os) (started : os.Started) (H : Type) (enc : TypeId × Value → H) (F : Stop.Interp) :
    ReturnsInHanded {} Try.checked os 7 .any ((Rows.OpenSpec.upto Rows.unitsBindsSpec).pre6 enc Try.prog Try.f7 Rows.unitsBindsUptoRow.domain false) (((Rows.OpenSpec.upto Rows.unitsBindsSpec).at F).post enc Try.prog Try.f7 false true false false) := by
  refine returnsInHanded_of_cond (C := Try.checked) (s := Rows.OpenSpec.upto Rows.unitsBindsSpec) (k := Rows.uptoSmall) rfl own started (by kernel_rfl) Try.func7
    (OpenSpec.witness (enc := enc) (C := Try.checked) (s := Rows.OpenSpec.upto Rows.unitsBindsSpec) (k := Rows.uptoSmall) rfl false ⟨#[], #[.agg #[.slice none 0 0, .string .empty, .int .i64 0, .slice none 0 0, .string .empty, .int .i64 0, .slice none 0 0, .int .i64 0]], []⟩ 8 (by kernel_rfl) (by kernel_rfl) (by kernel_rfl)
      (x := ([.agg [.nil, .agg [.lit (.string []), .lit (.int .i64 0), .nil], .agg [.lit (.string []), .lit (.int .i64 0), .nil], .lit (.int .i64 0)]], [], [])) (by kernel_rfl) rfl (by kernel_rfl)) ?_
  intro W base args ds gs before hval hW _ hk _
  exact unitsBinds_contract H enc W base args ds gs before hval hW hk

set_option maxRecDepth 100000 in
theorem unitsBinds_holds : Rows.UnitsBindsUptoSaid :=
  OpenClaim.holds_of_cond 7 Try.f7 rfl rfl rfl rfl rfl rfl rfl ⟨rfl, rfl, rfl, rfl, rfl⟩ rfl rfl rfl rfl rfl (by kernel_rfl) Try.func7 (by kernel_rfl)
    (of_decide_eq_true (by kernel_rfl)) (by unfold Func.isWrapper; first | (rw [if_pos (by decide +kernel)]; kernel_rfl) | (rw [if_neg (by decide +kernel)]; exact ⟨rfl, rfl⟩))
    (fun os started H enc _ F => unitsBinds_lifted os started H enc F)
end Go.Proofs.Ytplekhfnidhcoaa
