/- List of package pick. -/
import Derived.Test.YteakakonjfcpmaaDoorPkAllIn
namespace Go.Proofs.YteakakonjfcpmaaDoor
open Go.RowKit Go.Shelf

attribute [local go_sem] Oper.semAt_some

def mAll (l : List Nat) : List Value := l.map fun M : Nat => Value.int .u32 M
theorem mAll_len (l : List Nat) : (mAll l).length = l.length := List.length_map _
/-- The error of List. -/
def listE (rs : List (List Int)) (ws : List Int) (most : Int) : Int := if pkE rs ws ≠ 0 then pkE rs ws else if most < 0 then 1 else if most < (fitL rs ws).length then 2 else 0
/-- How List ends. -/
def ListEnd (rs : List (List Int)) (ws : List Int) (most : Int) (w : World) (e : Ending) (w' : World) : Prop := Below w.heap.size w w' ∧
  ((listE rs ws most ≠ 0 ∧ e = .returned (.tuple #[.slice none 0 0, .int .i64 (listE rs ws most)])) ∨
   (listE rs ws most = 0 ∧ ∃ v, e = .returned (.tuple #[v, .int .i64 0]) ∧ OwnZ w' w.heap.size 32 (.int .u32 0) v (mAll (fitL rs ws))))
theorem Tryd.info32 : (Tryd.prog.info? 32).map (fun i => (i.zero, i.size, i.bytes)) = some (some (.int .u32 0), 1, 4) := by kernel_rfl
/-- What List keeps as it goes. -/
structure LK (w : World) (Y D : Nat) (most : Int) (L : List Nat) (X : Nat → Prop) (br bw : Nat) (pr : Option Addr) (cr : Nat) (rs : List (List Int)) (pw : Option Addr) (cw : Nat) (ws : List Int) (k : Nat) (W : World) : Prop where
  y0 : W.heap[Y]? = some (.cells #[.int .i64 most] 3 (0, 0))
  y1 : W.heap[Y + 1]? = some (.cells #[.slice none 0 0] 23 (0, 0))
  y2 : W.heap[Y + 1 + 1]? = some (.cells #[.int .i64 0] 24 (0, 0))
  y3 : ∃ v, W.heap[Y + 1 + 1 + 1]? = some (.cells #[v] 23 (0, 0)) ∧ OwnZ W (D + 6) 32 (.int .u32 0) v (mAll (L.take k))
  df : W.heap[D]? = some (.deferred (some []))
  at_ : AllAt X W br bw pr cr rs pw cw ws
  tab : Tab W
  low : Below Y w W
  km : (k : Int) ≤ most
  xs : ∀ b, X b → Y + 4 ≤ b ∧ b < D
  yd : Y + 4 ≤ D
  wy : w.heap.size = Y
  y00 : 0 < Y
theorem LK.fr {w : World} {Y D : Nat} {most : Int} {L : List Nat} {X : Nat → Prop} {br bw : Nat} {pr : Option Addr} {cr : Nat} {rs : List (List Int)} {pw : Option Addr} {cw : Nat} {ws : List Int} {k : Nat} {W W' : World} (h : LK w Y D most L X br bw pr cr rs pw cw ws k W) {A : Nat → Prop} (hf : Fr A W W') (hA : ∀ b, A b → D < b ∧ b < D + 6) : LK w Y D most L X br bw pr cr rs pw cw ws k W' := by
  have hyd := h.yd
  have keep : ∀ {b : Nat} {o : Obj}, W.heap[b]? = some o → b ≤ D → W'.heap[b]? = some o := fun hb hle => (hf.same _ (Array.getElem?_eq_some_iff.1 hb).1 (fun ha => by have := (hA _ ha).1; omega)).trans hb
  obtain ⟨v, hv, hz⟩ := h.y3
  have hDs : D < W.heap.size := (Array.getElem?_eq_some_iff.1 h.df).1
  refine ⟨keep h.y0 (by omega), keep h.y1 (by omega), keep h.y2 (by omega), ⟨v, keep hv (by omega), hz.same (fun k hk => hf.same k (hz.lt hk).2 (fun ha => by have := (hA _ ha).2; have := (hz.lt hk).1; omega))⟩, keep h.df (Nat.le_refl _), ?_, fun i hi => hf.cell (h.tab i hi) (fun ha => by have h9 : D < 0 := (hA _ ha).1; omega), h.low.trans (hf.below (n := Y) (fun b hb => by have := (hA b hb).1; omega) (by omega)), h.km, h.xs, h.yd, h.wy, h.y00⟩
  exact h.at_.same (fun b hb => hf.same b (by have := (h.xs b hb).2; omega) (fun ha => by have := (hA _ ha).1; have := (h.xs b hb).2; omega))
theorem list_start (w : World) (most : Int) (A3 : World) (hA : A3 = ((w.alloc (.cells #[.int .i64 most] 3)).alloc (.cells #[.slice none 0 0] 23)).alloc (.cells #[.int .i64 0] 24)) :
    Below w.heap.size w A3 ∧ A3.heap[w.heap.size]? = some (.cells #[.int .i64 most] 3 (0, 0)) ∧ A3.heap[w.heap.size + 1]? = some (.cells #[.slice none 0 0] 23 (0, 0)) ∧ A3.heap[w.heap.size + 1 + 1]? = some (.cells #[.int .i64 0] 24 (0, 0)) ∧ A3.heap.size = w.heap.size + 1 + 1 + 1 := by
  have b1 := alloc_below0 w (.cells #[.int .i64 most] 3)
  have n1 := World.alloc_heap_new w (.cells #[.int .i64 most] 3)
  have s1 := World.size_alloc w (.cells #[.int .i64 most] 3)
  generalize w.alloc (.cells #[.int .i64 most] 3) = A1 at b1 n1 s1 hA
  have b2 := alloc_below0 A1 (.cells #[.slice none 0 0] 23)
  have n2 := World.alloc_heap_new A1 (.cells #[.slice none 0 0] 23)
  have s2 := World.size_alloc A1 (.cells #[.slice none 0 0] 23)
  generalize A1.alloc (.cells #[.slice none 0 0] 23) = A2 at b2 n2 s2 hA
  have b3 := alloc_below0 A2 (.cells #[.int .i64 0] 24)
  have n3 := World.alloc_heap_new A2 (.cells #[.int .i64 0] 24)
  have s3 := World.size_alloc A2 (.cells #[.int .i64 0] 24)
  rw [← hA] at b3 n3 s3
  refine ⟨b1.trans ((b2.mono (by omega)).trans (b3.mono (by omega))), (b3.block _ (by omega)).trans ((b2.block _ (by omega)).trans n1), ?_, ?_, by omega⟩
  · rw [← s1]; exact (b3.block _ (by omega)).trans n2
  · rw [← s1, ← s2]; exact n3
theorem load23 {w : World} {B : Nat} {p : Option Addr} {n c : Nat} (h : w.heap[B]? = some (.cells #[.slice p n c] 23 (0, 0))) : (loadVar 23 ⟨B, 0, none⟩).run Tryd.prog w = .ok (.slice p n c) w := by
  have c0 : w.cell? ⟨B, 0, none⟩ = some (.slice p n c) := cell_box h rfl
  simp [go_sem, loadVar, c0]
theorem load24 {w : World} {B : Nat} {x : Int} (h : w.heap[B]? = some (.cells #[.int .i64 x] 24 (0, 0))) : (loadVar 24 ⟨B, 0, none⟩).run Tryd.prog w = .ok (.int .i64 x) w := by
  have c0 : w.cell? ⟨B, 0, none⟩ = some (.int .i64 x) := cell_box h rfl
  simp [go_sem, loadVar, c0]
theorem results_two {fn : Func} {tmps : Array Value} {w : World} {a b : Addr} {x y : Value} (h : fn.results = #[.cell 6 23, .cell 7 24]) (ha : tmps.getD 6 undef = .pointer (some a)) (hb : tmps.getD 7 undef = .pointer (some b)) (la : (loadVar 23 a).run Tryd.prog w = .ok x w) (lb : (loadVar 24 b).run Tryd.prog w = .ok y w) : (results fn tmps).run Tryd.prog w = .ok (.tuple #[x, y]) w := by
  have ha' : tmps[6]?.getD undef = .pointer (some a) := by simpa using ha
  have hb' : tmps[7]?.getD undef = .pointer (some b) := by simpa using hb
  simp [results, h, ha', hb', asAddr, la, lb]
theorem two_sets {A3 : World} {Y : Nat} {u v x y : Value} (h1 : A3.heap[Y + 1]? = some (.cells #[u] 23 (0, 0))) (h2 : A3.heap[Y + 1 + 1]? = some (.cells #[v] 24 (0, 0))) (W : World) (hW : W = (A3.setCell ⟨Y + 1, 0, none⟩ x).setCell ⟨Y + 1 + 1, 0, none⟩ y) :
    W.heap[Y + 1]? = some (.cells #[x] 23 (0, 0)) ∧ W.heap[Y + 1 + 1]? = some (.cells #[y] 24 (0, 0)) ∧ (∀ b, b ≠ Y + 1 → b ≠ Y + 1 + 1 → W.heap[b]? = A3.heap[b]?) ∧ Below (Y + 1) A3 W := by
  subst hW
  refine ⟨(set_far (by omega) _).trans (set_box h1), set_box ((set_far (by omega) _).trans h2), fun b hb1 hb2 => (set_far hb2 _).trans (set_far hb1 _), ?_⟩
  exact ((Below.refl _ _).setCell (p := ⟨Y + 1, 0, none⟩) (Nat.le_refl (Y + 1)) _).setCell (p := ⟨Y + 1 + 1, 0, none⟩) (show Y + 1 ≤ Y + 1 + 1 by omega) _
theorem wpListIn_append_run {F : Fence} {n : Nat} {P : Program} (w : World) {ops : Array Oper} {rest : List Oper} {o : Oper} {a : Act} {Q : Exit → Act → World → Prop} (hg : o.guard = none) (s x : Operand) (t : TypeId)
    (hop : o.op = .call { callee := .builtin .append, args := #[s, x], argTypes := #[t, t] }) (vs vx : Value) (hs : a.eval s = vs) (hx : a.eval x = vx)
    (v' : Value) (w' : World) (hr : (Builtin.append_ #[t, t] o.type #[vs, vx]).run P w = .ok v' w') (h : wpListIn F n P ops Q rest (a.put o.dst v') w') : wpListIn F n P ops Q (o :: rest) a w := by
  refine wpListIn_plain hg fun K hK' => ?_
  unfold Oper.wpIn
  refine ⟨?_, ?_⟩
  · simp [Oper.about, hop, resolve, Target.leads, Sem.run_pure]
  · rw [Oper.semAt_plain F _ _ (by rw [hop]; intro c hc'; cases hc')]
    simp [execOp, hop, resolve, invoke, builtin, hs, hx, hr, Result.andThen]
    exact hK' _ _ h
theorem list_zero {w A3 W1 W0 : World} {most : Int} {L : List Nat} {pr : Option Addr} {cr : Nat} {rs : List (List Int)} {pw : Option Addr} {cw : Nat} {ws : List Int} {r : Loop} (hB3 : Below w.heap.size w A3) (n1 : A3.heap[w.heap.size]? = some (.cells #[.int .i64 most] 3 (0, 0))) (n2 : A3.heap[w.heap.size + 1]? = some (.cells #[.slice none 0 0] 23 (0, 0))) (n3 : A3.heap[w.heap.size + 1 + 1]? = some (.cells #[.int .i64 0] 24 (0, 0))) (s3 : A3.heap.size = w.heap.size + 1 + 1 + 1)
    (hT : Tab w) (hb5 : Below (w.heap.size + 4) (A3.alloc (.cells #[.slice none 0 0] 23)) W1) (hat : AllAt (fun b => w.heap.size + 4 ≤ b ∧ b < W1.heap.size) W1 (w.heap.size + 4) (w.heap.size + 4 + 1) pr cr rs pw cw ws) (hm : 0 ≤ most) (hW0 : W0 = (W1.alloc (.deferred (some []))).alloc (.loop r)) :
    LK w w.heap.size W1.heap.size most L (fun b => w.heap.size + 4 ≤ b ∧ b < W1.heap.size) (w.heap.size + 4) (w.heap.size + 4 + 1) pr cr rs pw cw ws 0 W0 ∧ W0.heap[W1.heap.size + 1]? = some (.loop r) ∧ W0.heap.size = W1.heap.size + 2 := by
  have hpos : 0 < w.heap.size := World.block_lt_of_cell? w ⟨0, 0, none⟩ (hT 0 (by omega))
  have b4 := alloc_below0 A3 (.cells #[.slice none 0 0] 23)
  have n4 := World.alloc_heap_new A3 (.cells #[.slice none 0 0] 23)
  have s4 := World.size_alloc A3 (.cells #[.slice none 0 0] 23)
  generalize A3.alloc (.cells #[.slice none 0 0] 23) = A4 at *
  have b6 := alloc_below0 W1 (.deferred (some []))
  have n6 := World.alloc_heap_new W1 (.deferred (some []))
  have s6 := World.size_alloc W1 (.deferred (some []))
  generalize W1.alloc (.deferred (some [])) = W2 at *
  have b7 := alloc_below0 W2 (.loop r)
  have n7 := World.alloc_heap_new W2 (.loop r)
  have s7 := World.size_alloc W2 (.loop r)
  rw [← hW0] at b7 n7 s7
  have h45 := hb5.size
  have B67 : Below W1.heap.size W1 W0 := b6.trans (b7.mono (by omega))
  have keep : ∀ {b : Nat} {o : Obj}, A3.heap[b]? = some o → W0.heap[b]? = some o := fun {b o} hb => by
    have hlt := (Array.getElem?_eq_some_iff.1 hb).1
    exact (B67.block _ (by omega)).trans ((hb5.block _ (by omega)).trans ((b4.block _ hlt).trans hb))
  have BA : Below w.heap.size w W0 := hB3.trans ((b4.mono (by omega)).trans ((hb5.mono (by omega)).trans (B67.mono (by omega))))
  refine ⟨⟨keep n1, keep n2, keep n3, ⟨.slice none 0 0, ?_, OwnZ.nil _ _ _ _⟩, ?_, ?_, hT.below BA, BA, by omega, fun b hb => hb, by omega, rfl, hpos⟩, ?_, by omega⟩
  · rw [s3] at n4
    exact (B67.block _ (by omega)).trans ((hb5.block _ (by omega)).trans n4)
  · exact (b7.block _ (by omega)).trans n6
  · exact hat.same (fun b hb => B67.block b hb.2)
  · rw [s6] at n7; exact n7
set_option maxRecDepth 100000 in
set_option maxHeartbeats 8000000 in
theorem list_any (a : Option Addr) (c : Nat) (rs : List (List Int)) (b : Option Addr) (d : Nat) (ws : List Int) (most : Int) (w : World) (hR : RowsAt w a rs) (hW : IntsAt w b ws) (hT : Tab w) :
    Calls Tryd.prog 9 #[.slice a rs.length c, .slice b ws.length d, .int .i64 most] w (ListEnd rs ws most w) := by
  refine (callsIn_wide (n := 12)).1 ?_
  have hpos : 0 < w.heap.size := World.block_lt_of_cell? w ⟨0, 0, none⟩ (hT 0 (by omega))
  obtain ⟨B3, N1, N2, N3, S3⟩ := list_start w most _ rfl
  have HST := hid (And.intro B3 (And.intro N1 (And.intro N2 (And.intro N3 S3))))
  have HCK := hid (pcheck_any a c rs b d ws _ (hR.below B3) (hW.below B3))
  have HRA := hid (hR.below B3); have HWA := hid (hW.below B3); have HTA := hid (hT.below B3); have HTW := hid hT
  clear B3 N1 N2 N3 S3 hR hW hT
  obtain ⟨R, hRR⟩ : ∃ R, pkE rs ws = R := ⟨_, rfl⟩
  rw [hRR] at HCK
  have HRR := hid hRR
  clear hRR
  refine callsIn_of_wp_marks Tryd.func9 rfl trivial ?_ rfl
  simp only [Tryd.ntmps9, List.size_toArray, List.length_cons, List.length_nil, Nat.reduceAdd, Nat.reduceSub, Array.replicate_succ, Array.replicate_zero, List.push_toArray, List.append_toArray, List.nil_append, List.cons_append]
  gi_wp2_with fail
  generalize ((w.alloc (.cells #[.int .i64 most] 3)).alloc (.cells #[.slice none 0 0] 23)).alloc (.cells #[.int .i64 0] 24) = A3 at HST HCK HRA HWA HTA ⊢
  obtain ⟨B3, N1, N2, N3, S3⟩ := HST.out
  have b4 := alloc_below0 A3 (.cells #[.slice none 0 0] 23)
  have n4 := World.alloc_heap_new A3 (.cells #[.slice none 0 0] 23)
  have s4 := World.size_alloc A3 (.cells #[.slice none 0 0] 23)
  have HAL := hid (all_any a c rs b d ws (A3.alloc (.cells #[.slice none 0 0] 23)) (HRA.out.below b4) (HWA.out.below b4))
  have HT3 := hid (HTA.out.below b4)
  have HB3 := hid B3; have HN1 := hid N1; have HN2 := hid N2; have HN3 := hid N3; have HS3 := hid S3; have HB4 := hid b4; have HN4 := hid n4; have HS4 := hid s4
  clear B3 N1 N2 N3 S3 b4 n4 s4 HST HRA HWA HTA
  refine ⟨trivial, ?_⟩
  refine (callsIn_wide.2 HCK.out).mono ?_
  intro e w1 h1
  obtain ⟨rfl, h2⟩ := h1
  rw [h2]
  clear h2 HCK
  have q1 := cell_box HN1.out (i := 0) rfl
  have q2 := cell_box HN2.out (i := 0) rfl
  have q3 := cell_box HN3.out (i := 0) rfl
  have z2 := free_box (i := 0) HN2.out
  have z3 := free_box (i := 0) HN3.out
  by_cases h0 : R = 0
  · subst h0
    by_cases hm : most < 0
    · have HM := hid hm
      gi_wp2_with fail
      obtain ⟨g1, g2, g3, g4⟩ := two_sets (x := .slice none 0 0) (y := .int .i64 1) HN2.out HN3.out _ rfl
      refine ⟨_, results_two rfl rfl rfl (load23 g1) (load24 g2), ?_⟩
      have hE : listE rs ws most = 1 := by unfold listE; rw [HRR.out, if_neg (by decide), if_pos HM.out]
      exact ⟨HB3.out.trans (g4.mono (by omega)), .inl ⟨by rw [hE]; decide, by rw [hE]⟩⟩
    · have HM : Hid (0 ≤ most) := hid (by omega)
      gi_wp2_with fail
      refine ⟨trivial, ?_⟩
      refine (callsIn_wide.2 HAL.out).mono ?_
      rintro e W1 ⟨hb5, (⟨h1, _⟩ | ⟨_, rfl, pr, cr, pw, cw, hat⟩)⟩
      · exact absurd HRR.out h1
      have HB5 := hid hb5; have HAT := hid hat
      clear hb5 hat HAL
      have hsz4 : (A3.alloc (.cells #[.slice none 0 0] 23)).heap.size = w.heap.size + 4 := by rw [HS4.out, HS3.out]
      rw [hsz4] at HAT HB5
      have HLZ := hid fun r W0 (hW0 : W0 = (W1.alloc (.deferred (some []))).alloc (.loop r)) => list_zero (L := fitL rs ws) (r := r) HB3.out HN1.out HN2.out HN3.out HS3.out HTW.out HB5.out HAT.out HM.out hW0
      have OK := hid (pkE_ok HRR.out)
      have hs3 := HS3.out
      clear HB3 HN1 HN2 HN3 HB4 HN4 HS4 HT3 q1 q2 q3 z2 z3 HTW HB5 HAT
      rw [hsz4, hs3]
      clear hsz4 HS3
      gi_wp2_with fail
      generalize hD : W1.heap.size = D at *
      generalize hY : w.heap.size = Y at *
      obtain ⟨L, hL⟩ : ∃ L, fitL rs ws = L := ⟨_, rfl⟩
      rw [hL] at HLZ
      have HLL := hid hL
      have HEQ : Hid (most < L.length → listE rs ws most = 2) := hid fun h => by unfold listE; rw [HRR.out, if_neg (by decide), if_neg (by have := HM.out; omega), hL, if_pos h]
      have HEZ : Hid ((L.length : Int) ≤ most → listE rs ws most = 0) := hid fun h => by unfold listE; rw [HRR.out, if_neg (by decide), if_neg (by have := HM.out; omega), hL, if_neg (by omega)]
      clear hL
      obtain ⟨i0, hi0, hz0, hz1, hz2⟩ := info_parts Tryd.info32
      have hLn : L.length ≤ 65536 := by
        have h8 : L.length ≤ 2 ^ rs.length := by
          rw [← HLL.out]
          unfold fitL fromM
          refine Nat.le_trans (List.length_filter_le _ _) ?_
          simp
        exact Nat.le_trans h8 (Nat.pow_le_pow_right (n := 2) (by omega) OK.out.few)
      refine range_law rfl (by omega) (gf := 38) (lb := #[.pointer (some ⟨Y + 4 + 1, 0, none⟩), .pointer (some ⟨Y + 4, 0, none⟩)]) rfl trivial (enters_of Tryd.func38 (by kernel_rfl) rfl) ?_
      intro r hr1 hr2 hr3 hr4 hr5 hr6 hr7
      obtain ⟨hK0, hL0, hS0⟩ := HLZ.out r _ rfl
      rw [hD]
      generalize (W1.alloc (.deferred (some []))).alloc (.loop r) = W0 at hK0 hL0 hS0 ⊢
      refine (all_in 7 (D + 1) (Y + 4 + 1) (Y + 4) (fun b => Y + 4 ≤ b ∧ b < D) pr cr rs pw cw ws OK.out
        (fun k W => LK w Y D most L (fun b => Y + 4 ≤ b ∧ b < D) (Y + 4) (Y + 4 + 1) pr cr rs pw cw ws k W ∧ W.heap[D + 1]? = some (.loop r))
        (fun W => W.heap[D]? = some (.deferred (some [])) ∧ W.heap[D + 1]? = some (.loop { r with state := .done, pending := some .ret }) ∧ W.heap[Y + 1]? = some (.cells #[.slice none 0 0] 23 (0, 0)) ∧ W.heap[Y + 1 + 1]? = some (.cells #[.int .i64 2] 24 (0, 0)) ∧ Below Y w W ∧ most < L.length) W0 ?_ ?_ ?_ ?_ ⟨hK0, hL0⟩).mono ?_
      · rintro k W W' ⟨h1, h2⟩ hf
        refine ⟨h1.fr hf (fun b hb => by omega), (hf.same _ (Array.getElem?_eq_some_iff.1 h2).1 (by omega)).trans h2⟩
      · rintro k W ⟨h1, _⟩
        exact ⟨h1.at_, h1.tab⟩
      · rintro b ⟨_, hb⟩
        omega
      · rintro mm k W M hMk hsz ⟨hK, hLp⟩
        refine yield_by hr5 hr6 hr3 hr4 hLp hr1 rfl hr7 ?_
        rw [HLL.out] at hMk
        have HK := hid hK; have HLP := hid hLp; have HMK := hid hMk
        have HSZ : Hid (D + 6 ≤ W.heap.size ∧ W0.heap.size = D + 2) := hid ⟨by omega, hS0⟩
        clear hK hLp hMk hsz hr3 hr4 hr5 hr6 hK0 hL0 hS0
        simp only [List.zip_toArray, List.zip_cons_cons, List.zip_nil_right, List.foldl_toArray, List.foldl_cons, List.foldl_nil, List.setIfInBounds_toArray, List.set_cons_succ, List.set_cons_zero]
        gi_wp2
        refine ⟨HLP.out, ?_⟩
        have hlt : D + 1 < W.heap.size := (Array.getElem?_eq_some_iff.1 HLP.out).1
        have hK2 := HK.out.fr (fr_one (W := W) (D + 1) (.loop { r with state := .busy })) (fun b e => by omega)
        have hL2 := World.putObj_heap_same (w := W) (o := .loop { r with state := .busy }) hlt
        have hsm2 : ∀ b, b ≠ D + 1 → (W.putObj (D + 1) (.loop { r with state := .busy })).heap[b]? = W.heap[b]? := fun b hb => World.putObj_heap_other hb
        have hs2 : (W.putObj (D + 1) (.loop { r with state := .busy })).heap.size = W.heap.size := by simp [World.putObj]
        generalize W.putObj (D + 1) (.loop { r with state := .busy }) = W2 at hK2 hL2 hsm2 hs2 ⊢
        obtain ⟨v, hv, hz⟩ := hK2.y3
        have hkl : k < L.length := (List.getElem?_eq_some_iff.1 HMK.out).1
        have hlk : (mAll (L.take k)).length = k := by rw [mAll_len, List.length_take]; omega
        obtain ⟨p9, c9, rfl⟩ := hz.form
        rw [hlk] at hv hz
        have x9 := cell_box hv (i := 0) rfl
        have x5 := cell_box hK2.y0 (i := 0) rfl
        have x6 := cell_box hK2.y1 (i := 0) rfl
        have x7 := cell_box hK2.y2 (i := 0) rfl
        have f6 := free_box (i := 0) hK2.y1
        have f7 := free_box (i := 0) hK2.y2
        have hyd := hK2.yd
        have hkm := hK2.km
        have HK2 := hid hK2; have HL2 := hid hL2; have HSM := hid hsm2; have HS2 := hid hs2; have HV := hid hv; have HZ := hid hz; have HKL := hid hkl
        clear hK2 hL2 hsm2 hs2 hv hz hlk hkl
        by_cases hkm2 : (k : Int) = most
        · have HKM := hid hkm2
          have heq : ((k : Int) == most) = true := by simpa using hkm2
          clear hkm2 hkm
          gi_wp2_with fail
          obtain ⟨g1, g2, g3, g4⟩ := two_sets (x := .slice none 0 0) (y := .int .i64 2) HK2.out.y1 HK2.out.y2 _ rfl
          generalize (W2.setCell ⟨Y + 1, 0, none⟩ (.slice none 0 0)).setCell ⟨Y + 1 + 1, 0, none⟩ (.int .i64 2) = W5 at g1 g2 g3 g4 ⊢
          have l5 : W5.heap[D + 1]? = some (.loop { r with state := .busy }) := (g3 _ (by omega) (by omega)).trans HL2.out
          refine ⟨l5, fun b h1 h2 => ?_, .inr ⟨rfl, ?_, ?_, ?_, ?_, ?_, ?_⟩⟩
          · have := HSZ.out.2
            rw [World.putObj_heap_other (by omega), g3 _ (by omega) (by omega), HSM.out _ (by omega)]
          · exact (World.putObj_heap_other (by omega)).trans ((g3 _ (by omega) (by omega)).trans HK2.out.df)
          · exact World.putObj_heap_same (Array.getElem?_eq_some_iff.1 l5).1
          · exact (World.putObj_heap_other (by omega)).trans g1
          · exact (World.putObj_heap_other (by omega)).trans g2
          · exact (HK2.out.low.trans (g4.mono (by omega))).trans ((fr_one (D + 1) _).below (n := Y) (fun b e => by omega) (by have h9 := (Array.getElem?_eq_some_iff.1 l5).1; omega))
          · have h9 := HKL.out; have h10 := HKM.out; omega
        · have heq : ((k : Int) == most) = false := by simpa using hkm2
          have hkm3 : ((k + 1 : Nat) : Int) ≤ most := by omega
          have HKM := hid hkm3
          have hml : (mAll (L.take k)).length = k := by have := HKL.out; rw [mAll_len, List.length_take]; omega
          obtain ⟨g, cap, w4, hr4, hz4, hf4⟩ := app_one 23 23 32 i0 _ 4 Tryd.underlying23 hi0 hz0 hz1 hz2 rfl (D + 6) (.slice p9 k c9) (mAll (L.take k)) (.int .u32 M) W2 HZ.out rfl (by rw [hml]; have := HKL.out; omega) (by rw [hml]; have := HKL.out; omega) (by have := HSZ.out.1; have := HS2.out; omega)
          have hlen4 : (mAll (L.take k) ++ [Value.int .u32 M]).length = k + 1 := by simp [hml]
          rw [hlen4] at hr4 hz4
          have htk : mAll (L.take k) ++ [Value.int .u32 M] = mAll (L.take (k + 1)) := by
            rw [List.take_add_one, HMK.out]
            simp [mAll]
          rw [htk] at hz4
          have hown : ∀ q, (Value.slice p9 k c9).ownBlock = some q → D + 6 ≤ q := fun q hq => (HZ.out.lt hq).1
          have b5 : ∀ (b : Nat) (o : Obj), W2.heap[b]? = some o → b < D + 6 → w4.heap[b]? = some o := fun b o hb hle => (hf4.same _ (Array.getElem?_eq_some_iff.1 hb).1 (fun e => by have := hown _ e; omega)).trans hb
          have v4 := b5 _ _ HV.out (by omega)
          have x4 := cell_box v4 (i := 0) rfl
          have f4 := free_box (i := 0) v4
          have HR5 := hid (And.intro hz4 (And.intro hf4 v4))
          have HB5 := hid b5
          have HOW := hid hown
          clear hkm2 hkm hkm3 hml htk hlen4 hz4 hf4 hown b5 v4
          gi_wp2_with (first
            | (gi_at_builtin; refine wpListIn_append_run _ rfl _ _ _ rfl _ _ rfl rfl _ _ hr4 ?_; clear hr4)
            | fail)
          obtain ⟨hz4, hf4, v4⟩ := HR5.out
          have s4 := set_box (v := .slice (some ⟨g, 0, none⟩) (k + 1) cap) v4
          have far4 : ∀ b, b ≠ Y + 1 + 1 + 1 → (w4.setCell ⟨Y + 1 + 1 + 1, 0, none⟩ (.slice (some ⟨g, 0, none⟩) (k + 1) cap)).heap[b]? = w4.heap[b]? := fun b hb => set_far hb _
          have low4 : Below Y w4 (w4.setCell ⟨Y + 1 + 1 + 1, 0, none⟩ (.slice (some ⟨g, 0, none⟩) (k + 1) cap)) := (Below.refl _ _).setCell (p := ⟨Y + 1 + 1 + 1, 0, none⟩) (show Y ≤ Y + 1 + 1 + 1 by omega) _
          generalize w4.setCell ⟨Y + 1 + 1 + 1, 0, none⟩ (.slice (some ⟨g, 0, none⟩) (k + 1) cap) = W5 at s4 far4 low4 ⊢
          have keep : ∀ {b : Nat} {o : Obj}, W2.heap[b]? = some o → b < D + 6 → b ≠ Y + 1 + 1 + 1 → W5.heap[b]? = some o := fun hb h1 h2 => (far4 _ h2).trans (HB5.out _ _ hb h1)
          have hsz5 := HSZ.out.1
          have hs22 := HS2.out
          have hDW : D < W2.heap.size := by omega
          have K5 : LK w Y D most L (fun b => Y + 4 ≤ b ∧ b < D) (Y + 4) (Y + 4 + 1) pr cr rs pw cw ws (k + 1) W5 := by
            have h := HK2.out
            refine ⟨keep h.y0 (by omega) (by omega), keep h.y1 (by omega) (by omega), keep h.y2 (by omega) (by omega), ⟨_, s4, hz4.same (fun q hq => far4 _ (fun e => by have := (hz4.lt hq).1; omega))⟩, keep h.df (by omega) (by omega), ?_, ?_, (h.low.trans (hf4.below (n := Y) (fun q hq => by have := HOW.out q hq; omega) (by omega))).trans low4, HKM.out, h.xs, h.yd, h.wy, h.y00⟩
            · exact h.at_.same (fun b hb => (far4 _ (by omega)).trans (hf4.same b (by omega) (fun e => by have := HOW.out _ e; omega)))
            · intro i hi
              have h9 := h.tab i hi
              rw [← h9]
              exact cell_same (a := ⟨0, i, none⟩) ((far4 0 (by omega)).trans (hf4.same 0 (by omega) (fun e => by have := HOW.out _ e; omega)))
          have l5 := keep HL2.out (by omega) (by omega)
          refine ⟨l5, fun b h1 h2 => ?_, .inl ⟨rfl, K5.fr (fr_one (D + 1) _) (fun b e => by omega), ?_⟩⟩
          · have h9 := HSZ.out.2
            rw [World.putObj_heap_other (by omega), far4 _ (by omega), hf4.same b (by omega) (fun e => by have := HOW.out _ e; omega), HSM.out _ (by omega)]
          · rw [loop_again hr1 hr2]
            exact World.putObj_heap_same (Array.getElem?_eq_some_iff.1 l5).1
      · rintro e W ⟨⟨v, rfl⟩, (⟨hK, hLp⟩ | ⟨j1, j2, j3, j4, j5, j6⟩)⟩
        · refine ⟨⟨v, rfl⟩, hK.df, .inl ⟨hLp, ?_⟩⟩
          have hK3 := hK.fr (fr_one (W := W) (D + 1) (.loop { r with state := .exhausted })) (fun b e => by omega)
          generalize W.putObj (D + 1) (.loop { r with state := .exhausted }) = W3 at hK3 ⊢
          obtain ⟨v9, hv, hz⟩ := hK3.y3
          rw [HLL.out, List.take_length] at hz
          obtain ⟨p9, c9, rfl⟩ := hz.form
          rw [mAll_len] at hv hz
          have x9 := cell_box hv (i := 0) rfl
          have x6 := cell_box hK3.y1 (i := 0) rfl
          have x7 := cell_box hK3.y2 (i := 0) rfl
          have f6 := free_box (i := 0) hK3.y1
          have f7 := free_box (i := 0) hK3.y2
          have HK3 := hid hK3; have HZ := hid hz
          have HE0 := hid (HEZ.out (by have := hK3.km; rw [HLL.out] at this; exact this))
          clear hK hLp hK0 hL0 hS0 hK3 hz hr1 hr2 hr3 hr4 hr5 hr6 hr7
          gi_wp2_with fail
          obtain ⟨g1, g2, g3, g4⟩ := two_sets (x := .slice p9 L.length c9) (y := .int .i64 0) HK3.out.y1 HK3.out.y2 _ rfl
          generalize (W3.setCell ⟨Y + 1, 0, none⟩ (.slice p9 L.length c9)).setCell ⟨Y + 1 + 1, 0, none⟩ (.int .i64 0) = W5 at g1 g2 g3 g4 ⊢
          have hyd := HK3.out.yd
          have d5 : W5.heap[D]? = some (.deferred (some [])) := (g3 _ (by omega) (by omega)).trans HK3.out.df
          refine ⟨by simp, .inl ⟨_, _, rfl, run_takeDeferred d5, ?_⟩⟩
          refine ⟨_, results_two rfl rfl rfl (load23 ((World.putObj_heap_other (by omega)).trans g1)) (load24 ((World.putObj_heap_other (by omega)).trans g2)), ?_⟩
          have hD5 := (Array.getElem?_eq_some_iff.1 d5).1
          refine ⟨?_, .inr ⟨HE0.out, _, rfl, ?_⟩⟩
          · rw [hY]
            exact (HK3.out.low.trans (g4.mono (by omega))).trans ((fr_one D _).below (n := Y) (fun b e => by omega) (by omega))
          · rw [hY, HLL.out]
            exact (HZ.out.same (fun q hq => by have := (HZ.out.lt hq).1; exact (World.putObj_heap_other (by omega)).trans (g3 _ (by omega) (by omega)))).mono (by omega)
        · refine ⟨⟨v, rfl⟩, j1, .inr ⟨.ret, j2, ?_⟩⟩
          have hyd := hK0.yd
          have k1 : (W.putObj (D + 1) (.loop { r with state := .exhausted, pending := some .ret })).heap[D]? = some (.deferred (some [])) := (World.putObj_heap_other (by omega)).trans j1
          have k3 : (W.putObj (D + 1) (.loop { r with state := .exhausted, pending := some .ret })).heap[Y + 1]? = some (.cells #[.slice none 0 0] 23 (0, 0)) := (World.putObj_heap_other (by omega)).trans j3
          have k4 : (W.putObj (D + 1) (.loop { r with state := .exhausted, pending := some .ret })).heap[Y + 1 + 1]? = some (.cells #[.int .i64 2] 24 (0, 0)) := (World.putObj_heap_other (by omega)).trans j4
          have hDs := (Array.getElem?_eq_some_iff.1 j1).1
          have k5 : Below Y w (W.putObj (D + 1) (.loop { r with state := .exhausted, pending := some .ret })) := j5.trans ((fr_one (D + 1) _).below (n := Y) (fun b e => by omega) (by omega))
          have HE2 := hid (HEQ.out j6)
          generalize W.putObj (D + 1) (.loop { r with state := .exhausted, pending := some .ret }) = W4 at k1 k3 k4 k5 ⊢
          clear j1 j2 j3 j4 j5 j6 hK0 hL0 hS0 hr1 hr2 hr3 hr4 hr5 hr6 hr7
          gi_wp2
          refine ⟨by simp, .inl ⟨_, _, rfl, run_takeDeferred k1, ?_⟩⟩
          refine ⟨_, results_two rfl rfl rfl (load23 ((World.putObj_heap_other (by omega)).trans k3)) (load24 ((World.putObj_heap_other (by omega)).trans k4)), ?_⟩
          have hD5 := (Array.getElem?_eq_some_iff.1 k1).1
          refine ⟨?_, .inl ⟨by rw [HE2.out]; decide, by rw [HE2.out]⟩⟩
          rw [hY]
          exact k5.trans ((fr_one D _).below (n := Y) (fun b e => by omega) (by omega))
  · have hne : (R != 0) = true := by simpa using h0
    have H0 := hid h0
    gi_wp2_with fail
    obtain ⟨g1, g2, g3, g4⟩ := two_sets (x := .slice none 0 0) (y := .int .i64 R) HN2.out HN3.out _ rfl
    refine ⟨_, results_two rfl rfl rfl (load23 g1) (load24 g2), ?_⟩
    have hE : listE rs ws most = R := by unfold listE; rw [HRR.out, if_pos H0.out]
    exact ⟨HB3.out.trans (g4.mono (by omega)), .inl ⟨by rw [hE]; exact H0.out, by rw [hE]⟩⟩
end Go.Proofs.YteakakonjfcpmaaDoor
