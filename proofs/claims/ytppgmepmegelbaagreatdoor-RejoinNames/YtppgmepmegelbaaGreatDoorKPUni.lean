import Derived.Deep.RegionHeld3
import Derived.Test.YtppgmepmegelbaaGreatDoorKPTog
/- What unite of package canon makes of loose forms: units left out, the others laid one behind the other. -/
namespace Go.Proofs.YtppgmepmegelbaaGreatDoor
open Go.RowKit Go.Deep

theorem map_filter_un (l : List Sym) (f : Int) : ∀ ks : List Kv, (ks.filter fun k => !isUnB l f k.tn).map Kv.tn = (ks.map Kv.tn).filter fun r => !isUn (sgOf l) f r
  | [] => rfl
  | k :: r => by
    rw [List.map_cons, List.filter_cons, List.filter_cons, isUnB_eq]
    cases h : isUn (sgOf l) f k.tn <;> simp [map_filter_un l f r]
theorem loosE_const (w : World) (A : Bl) (u : Int) : LoosE w A ⟨(noB, u), .nil, none, 0⟩ := ⟨⟨⟨by show noB.size ≤ maxLen; decide, Nat.le_refl _, Nat.zero_le _, by simp [lenF]⟩, .inl rfl⟩, fun _ => .inl ⟨rfl, rfl, rfl⟩⟩

set_option maxRecDepth 100000 in
set_option maxHeartbeats 2000000 in
theorem unite_any (S : Option Addr) (n cap : Nat) (l : List Sym) (f : Int) (ks : List Kv) (g c B : Nat) (A : Bl) (w : World) (hS : SigLow B w S n l) (hB : B ≤ w.heap.size) (hA : ∀ q, A q → B ≤ q) (hgB : B ≤ g) (hg : ¬ A g) (hrow : RowL w g c ks) (hks : GL LoosE w ks A) (hk : kindK l f ≠ 1) (hsz : sizes (ks.map Kv.tn) ≤ 1048576) (hc : c ≤ maxLen) :
    Calls Tryz.prog 94 #[.agg (headV S n cap l f), .slice (some ⟨g, 0, none⟩) ks.length c] w fun e w' => ∃ k : Kv, e = .returned (.agg #[.string k.x.1, .int .i64 k.x.2, .slice k.a (lenF k.l) k.c]) ∧
      ((((ks.map Kv.tn).filter fun r => !isUn (sgOf l) f r) = [] ∧ k.tn = constT (unitI l f)) ∨ (((ks.map Kv.tn).filter fun r => !isUn (sgOf l) f r) ≠ [] ∧ FlatOut (sgOf l) f ((ks.map Kv.tn).filter fun r => !isUn (sgOf l) f r) k.tn)) ∧
      LoosE w' (fun q => (A q ∨ q = g) ∨ w.heap.size ≤ q) k ∧ Turned (fun q => A q ∨ q = g) w w' := by
  have HS := hid hS
  have HA := hid hA
  have HG := hid hg
  have HR := hid hrow
  have HKS : Hid (GL LoosE w ks (fun q => A q ∧ q < w.heap.size)) := hks.within loosE
  have HSZ := hid hsz
  have HK := hid hk
  have hlen : ks.length ≤ 1048576 := by have := psizes_len (ks.map Kv.tn); rw [List.length_map] at this; omega
  have hmax : maxLen = 9223372036854775807 := rfl
  have hglt := hrow.lt
  obtain ⟨ms, hms⟩ : ∃ ms, (ks.filter fun k => !isUnB l f k.tn) = ms := ⟨_, rfl⟩
  have HMS := hid hms
  have HMM : Hid (ms.map Kv.tn = (ks.map Kv.tn).filter fun r => !isUn (sgOf l) f r) := by show _ = _; rw [← hms]; exact map_filter_un l f ks
  have hmc : ms.length ≤ c := by rw [← hms]; exact Nat.le_trans (List.length_filter_le _ _) hrow.len
  have hml : ms.length ≤ 1048576 := by rw [← hms]; exact Nat.le_trans (List.length_filter_le _ _) hlen
  clear hS hA hg hrow hks hsz hk hms
  obtain ⟨hv, hhv⟩ : ∃ hv, headV S n cap l f = hv := ⟨_, rfl⟩
  have hv' := hhv
  unfold headV at hv'
  have HB0 : Hid (Below w.heap.size w ((w.alloc (.cells hv 84)).alloc (.cells #[.string ⟨#[]⟩, .int .i64 0, .slice none 0 0] 28))) := ((Below.refl _ w).alloc (Nat.le_refl _) _).alloc (by simp) _
  have HF0 : Hid (Box ((w.alloc (.cells hv 84)).alloc (.cells #[.string ⟨#[]⟩, .int .i64 0, .slice none 0 0] 28)) w.heap.size 84 hv) := (Box.new w 84 _).below ((Below.refl _ _).alloc (Nat.le_refl _) _)
  have HX0 : Hid (XBox ((w.alloc (.cells hv 84)).alloc (.cells #[.string ⟨#[]⟩, .int .i64 0, .slice none 0 0] 28)) (w.heap.size + 1) (⟨#[]⟩, 0) (.slice none 0 0)) := by
    have := World.alloc_heap_new (w.alloc (.cells hv 84)) (.cells #[.string ⟨#[]⟩, .int .i64 0, .slice none 0 0] 28)
    rw [World.size_alloc] at this
    exact this
  have HD : Hid (Calls Tryz.prog 123 #[.slice (some ⟨g, 0, none⟩) ks.length c, .func (.func 124) #[.agg hv] #[]] ((w.alloc (.cells hv 84)).alloc (.cells #[.string ⟨#[]⟩, .int .i64 0, .slice none 0 0] 28)) fun e w' => e = .returned (.slice (some ⟨g, 0, none⟩) ms.length c) ∧ RowL w' g c ms ∧ Turned (fun q => q = g) ((w.alloc (.cells hv 84)).alloc (.cells #[.string ⟨#[]⟩, .int .i64 0, .slice none 0 0] 28)) w') := by
    have := delete_any S n cap l f ks g c (fun q => A q ∧ q < w.heap.size) ((w.alloc (.cells hv 84)).alloc (.cells #[.string ⟨#[]⟩, .int .i64 0, .slice none 0 0] 28)) (HR.out.keep (HB0.out.block g hglt)) (HKS.out.keep loosE (fun q _ hq => HB0.out.block q hq)) (fun h => HG.out h.1) hlen hc
    rw [HMS.out, hhv] at this
    exact this
  have arm : Hid (∀ w1, Turned (fun q => q = g) ((w.alloc (.cells hv 84)).alloc (.cells #[.string ⟨#[]⟩, .int .i64 0, .slice none 0 0] 28)) w1 → RowL w1 g c ms →
      (Turned (fun q => A q ∨ q = g) w w1 ∧ w.heap.size + 2 ≤ w1.heap.size) ∧ Box w1 w.heap.size 84 hv ∧ XBox w1 (w.heap.size + 1) (⟨#[]⟩, 0) (.slice none 0 0) ∧
      Calls Tryz.prog 93 #[.agg hv, .slice (some ⟨g, 0, none⟩) ms.length c] w1 fun e w' => ∃ k : Kv, e = .returned (.agg #[.string k.x.1, .int .i64 k.x.2, .slice k.a (lenF k.l) k.c]) ∧ FlatOut (sgOf l) f (ms.map Kv.tn) k.tn ∧ LoosE w' (fun q => (A q ∧ q < w.heap.size) ∨ w1.heap.size ≤ q) k ∧ Turned (fun q => A q ∧ q < w.heap.size) w1 w') := fun w1 ht hr => by
    have h1 := HF0.out.lt
    have h2 := HX0.out.lt
    have h3 := ht.size
    have hT : Turned (fun q => A q ∨ q = g) w w1 := (Turned.of_below HB0.out _).then ht (fun q _ hq => .inr hq)
    have hBl : Below B w w1 := hT.below (fun q hq => by rcases hq with h | rfl; exact HA.out q h; exact hgB) hB
    refine ⟨⟨hT, by omega⟩, (ht.block _ h1 (by omega)).trans HF0.out, (ht.block _ h2 (by omega)).trans HX0.out, ?_⟩
    have := flatten_any S n cap l f ms (some ⟨g, 0, none⟩) c B (fun q => A q ∧ q < w.heap.size) w1 (HS.out.below hBl) (Nat.le_trans hB hT.size) (fun q hq => HA.out q hq.1) (fun W hW => (hr.keep (hW.block g (by have := hr.lt; omega) (fun h => HG.out h.1))).at_) (by
      rw [← HMS.out]
      exact (HKS.out.filter _).keep loosE (fun q hq hlt => (ht.block q (by simp; omega) (fun e => HG.out (e ▸ hq.1))).trans (HB0.out.block q hlt))) HK.out (by
      rw [HMM.out]
      exact Nat.le_trans (sizes_filter _ _) HSZ.out)
    rw [hhv] at this
    exact this
  rw [hhv]
  clear hhv
  subst hv'
  go_enter Tryz.func94, Tryz.ntmps94
  go_wp2_with fail
  refine HD.out.mono ?_
  rintro e w1 ⟨rfl, hr1, ht1⟩
  obtain ⟨⟨hT, hsz1⟩, hfb, hxb, hC⟩ := arm.out w1 ht1 hr1
  have HT := hid hT
  have HC := hid hC
  have HX := hid hxb
  have q0 := hfb.c 0; have q1 := hfb.c 1; have q2 := hfb.c 2; have q3 := hfb.c 3; have q4 := hfb.c 4
  have r0 := hxb.c0; have r1 := hxb.c1; have r2 := hxb.c2
  have g0 := hxb.f (k := 0); have g1 := hxb.f (k := 1); have g2 := hxb.f (k := 2)
  clear hT hC hfb hxb arm HD HF0 HX0 HB0 ht1 hr1
  by_cases h0 : ms.length = 0
  · have hm0 : ms = [] := List.length_eq_zero_iff.1 h0
    have HM0 := hid hm0
    have hz : ((ms.length : Int) == 0) = true := by simp [h0]
    clear hm0 h0
    go_wp2
    refine bodyPost_ret (results_cell_row rfl _ _ (w.heap.size + 1) 28 #[.string ⟨#[]⟩, .int .i64 (unitI l f), .slice none 0 0] (0, 0) _ rfl (HX.out.all (x := (⟨#[]⟩, unitI l f)) _) Tryz.underlying28 rfl Tryz.size28) rfl ?_
    refine ⟨⟨(noB, unitI l f), .nil, none, 0⟩, rfl, .inl ⟨?_, rfl⟩, loosE_const _ _ _, ?_⟩
    · rw [← HMM.out, HM0.out]; rfl
    · have hT := HT.out
      exact ⟨hT.os, hT.tape, hT.output, by have := hT.size; simp; omega, fun q hq hn => (sets_far (by omega) _ _ _).trans (hT.block q hq hn)⟩
  · have HM0 := hid h0
    have hz : ((ms.length : Int) == 0) = false := by simpa using h0
    clear h0
    go_wp2_with (go_at_call 93; refine HC.out.mono ?_; rintro e w2 ⟨k, rfl, hfl, hE, ht2⟩; have HFL := hid hfl; have HE := hid hE; have HT2 := hid ht2; have hxb := HX.out; have HX2 : XBox w2 (w.heap.size + 1) (⟨#[]⟩, 0) (.slice none 0 0) := (ht2.block _ (by omega) (fun h => by have := h.2; omega)).trans hxb; have y0 := HX2.c0; have y1 := HX2.c1; have y2 := HX2.c2; have z0 := HX2.f (k := 0); have z1 := HX2.f (k := 1); have z2 := HX2.f (k := 2); have HXX := hid HX2; clear hfl hE ht2 hxb HX2 q0 q1 q2 q3 q4 r0 r1 r2 g0 g1 g2)
    refine bodyPost_ret (results_cell_row rfl _ _ (w.heap.size + 1) 28 #[.string k.x.1, .int .i64 k.x.2, .slice k.a (lenF k.l) k.c] (0, 0) _ rfl (HXX.out.all (x := k.x) _) Tryz.underlying28 rfl Tryz.size28) rfl ?_
    refine ⟨k, rfl, .inr ⟨?_, ?_⟩, ?_, ?_⟩
    · rw [← HMM.out]
      intro e
      have := congrArg List.length e
      rw [List.length_map] at this
      exact HM0.out this
    · rw [← HMM.out]; exact HFL.out
    · refine loosE.mono (fun q hq => ?_) (loosE.keep (fun q hq _ => sets_far ?_ _ _ _) HE.out)
      · rcases hq with h | h
        · exact .inl (.inl h.1)
        · exact .inr (by omega)
      · rcases hq with h | h <;> omega
    · have hT : Turned (fun q => A q ∨ q = g) w w2 := HT.out.then HT2.out (fun q _ hq => .inl hq.1)
      exact ⟨hT.os, hT.tape, hT.output, by have := hT.size; simp; omega, fun q hq hn => (sets_far (by omega) _ _ _).trans (hT.block q hq hn)⟩
end Go.Proofs.YtppgmepmegelbaaGreatDoor
/- What lay of package canon makes: a symbol's term of loose forms. -/
namespace Go.Proofs.YtppgmepmegelbaaGreatDoor
open Go.RowKit Go.Deep

def laysV : Array Value := #[.nilFunc, .func (.func 92) #[] #[], .func (.func 93) #[] #[], .func (.func 94) #[] #[]]
theorem Tryz.size115 : (Tryz.prog.info? 115).map (·.size) = some 4 := by kernel_rfl
set_option maxRecDepth 100000 in
theorem layings_any (w : World) : Calls Tryz.prog 69 #[] w fun e w' => e = .returned (.agg laysV) ∧ Below w.heap.size w w' := by
  go_enter Tryz.func69, Tryz.ntmps69
  go_wp2
  refine bodyPost_ret (results_cell_row rfl _ _ w.heap.size 115 laysV (0, 0) _ rfl (World.alloc_heap_new w _) Tryz.underlying115 rfl Tryz.size115) rfl ?_
  exact ⟨rfl, (Below.refl _ w).alloc (Nat.le_refl _) _⟩

theorem idx1 (W : World) : (Instr.index 115 (.agg #[.nilFunc, .func (.func 92) #[] #[], .func (.func 93) #[] #[], .func (.func 94) #[] #[]]) (.int .i64 1)).run Tryz.prog W = .ok (.func (.func 92) #[] #[]) W := by kernel_rfl
theorem idx2 (W : World) : (Instr.index 115 (.agg #[.nilFunc, .func (.func 92) #[] #[], .func (.func 93) #[] #[], .func (.func 94) #[] #[]]) (.int .i64 2)).run Tryz.prog W = .ok (.func (.func 93) #[] #[]) W := by kernel_rfl
theorem idx3 (W : World) : (Instr.index 115 (.agg #[.nilFunc, .func (.func 92) #[] #[], .func (.func 93) #[] #[], .func (.func 94) #[] #[]]) (.int .i64 3)).run Tryz.prog W = .ok (.func (.func 94) #[] #[]) W := by kernel_rfl

def LooseOk (S : Option Addr) (n cap : Nat) (l : List Sym) (N : Nat) : Prop := ∀ (t : Tn) (a : Option Addr) (c : Nat) (w : World), nodesF t.2 ≤ N → SigAt w S n l → TmAt w t.1 a c t.2 →
  Calls Tryz.prog 68 #[.slice S n cap, .agg #[.string t.1.1, .int .i64 t.1.2, .slice a (lenF t.2) c]] w fun e w' => ∃ k : Kv, e = .returned (.agg #[.string k.x.1, .int .i64 k.x.2, .slice k.a (lenF k.l) k.c]) ∧ LooseR (sgOf l) (arAt l) t k.tn ∧ LoosE w' (fun q => w.heap.size ≤ q) k ∧ Below w.heap.size w w'

/-- Where lay stands before the term j. -/
structure LaySt (S : Sg) (ar : Int → Nat) (w : World) (hv : Array Value) (F : Fo) (j : Nat) (ks : List Kv) (W : World) : Prop where
  low : Below w.heap.size w W
  row : ∃ cur, W.heap[w.heap.size + 1 + 1]? = some (Obj.cells cur 28 (0, 0)) ∧ cur.size = lenF F * 3 ∧ ∀ (i : Nat) (u : Value), (kvCells ks)[i]? = some u → cur[i]? = some u
  gl : GL LoosE W ks (fun q => w.heap.size + 1 + 1 < q ∧ q < W.heap.size)
  fbox : Box W w.heap.size 84 hv
  rbox : XBox W (w.heap.size + 1) (⟨#[]⟩, 0) (.slice none 0 0)
  done : All2 (LooseR S ar) ((kidsL F).take j) (ks.map Kv.tn)
  len : ks.length = j
theorem LaySt.cell {S : Sg} {ar : Int → Nat} {w W : World} {hv : Array Value} {F : Fo} {j : Nat} {ks : List Kv} (h : LaySt S ar w hv F j ks W) {W' : World} (hb : Below W.heap.size W W') {i : Nat} (hi : i < lenF F * 3) : ∃ v, W'.cell? ⟨w.heap.size + 1 + 1, i, none⟩ = some v := by
  obtain ⟨cur, h1, h2, _⟩ := h.row
  have h1' := (hb.block _ (Array.getElem?_eq_some_iff.1 h1).1).trans h1
  exact ⟨cur[i]'(by omega), by rw [cell_of_row W' _ i cur 28 (0, 0) h1']; simp [show i < cur.size by omega]⟩
theorem LaySt.frozen {S : Sg} {ar : Int → Nat} {w W : World} {hv : Array Value} {F : Fo} {j : Nat} {ks : List Kv} (h : LaySt S ar w hv F j ks W) {W' : World} (hb : Below W.heap.size W W') (i : Nat) : W'.frozen? ⟨w.heap.size + 1 + 1, i, none⟩ = false := by
  obtain ⟨cur, h1, _⟩ := h.row
  have h1' := (hb.block _ (Array.getElem?_eq_some_iff.1 h1).1).trans h1
  simp [World.frozen?, h1']
theorem LaySt.step {S : Sg} {ar : Int → Nat} {w W w1 : World} {hv : Array Value} {F : Fo} {j : Nat} {ks : List Kv} {t : Tn} {kv : Kv} (h : LaySt S ar w hv F j ks W) (hb : Below W.heap.size W w1) (hE : LoosE w1 (fun q => W.heap.size ≤ q) kv) (hj : (kidsL F)[j]? = some t) (hR : LooseR S ar t kv.tn) :
    LaySt S ar w hv F (j + 1) (ks ++ [kv]) (((w1.setCell ⟨w.heap.size + 1 + 1, j * 3, none⟩ (.string kv.x.1)).setCell ⟨w.heap.size + 1 + 1, j * 3 + 1, none⟩ (.int .i64 kv.x.2)).setCell ⟨w.heap.size + 1 + 1, j * 3 + 2, none⟩ (.slice kv.a (lenF kv.l) kv.c)) := by
  obtain ⟨cur, h1, h2, h3⟩ := h.row
  have hlen := h.len
  have hjl : j < lenF F := by have := (List.getElem?_eq_some_iff.1 hj).1; rwa [kids_len] at this
  have hglt : w.heap.size + 1 + 1 < W.heap.size := (Array.getElem?_eq_some_iff.1 h1).1
  have h1' : w1.heap[w.heap.size + 1 + 1]? = some (Obj.cells cur 28 (0, 0)) := (hb.block _ hglt).trans h1
  have far : ∀ q, q ≠ w.heap.size + 1 + 1 → (((w1.setCell ⟨w.heap.size + 1 + 1, j * 3, none⟩ (.string kv.x.1)).setCell ⟨w.heap.size + 1 + 1, j * 3 + 1, none⟩ (.int .i64 kv.x.2)).setCell ⟨w.heap.size + 1 + 1, j * 3 + 2, none⟩ (.slice kv.a (lenF kv.l) kv.c)).heap[q]? = w1.heap[q]? := fun q hq => sets_far3 hq _ _ _
  have hbs := hb.size
  have hlow : Below w.heap.size w w1 := h.low.trans (hb.mono (by omega))
  refine ⟨⟨hlow.os, hlow.tape, hlow.output, by have := hlow.size; simpa using this, fun q hq => (far q (by omega)).trans (hlow.block q hq)⟩, ⟨_, block_set (block_set (block_set h1' _) _) _, by simp [h2], ?_⟩, ?_, (far _ (by omega)).trans ((hb.block _ (by omega)).trans h.fbox), (far _ (by omega)).trans ((hb.block _ (by omega)).trans h.rbox), ?_, by simp [hlen]⟩
  · intro i u hu
    rw [kvCells_snoc] at hu
    have hl := kvCells_len ks
    have hkl : kv.cells.length = 3 := rfl
    have hi : i < ks.length * 3 + 3 := by
      rcases Nat.lt_or_ge i (ks.length * 3 + 3) with h' | h'
      · exact h'
      · rw [List.getElem?_eq_none (by rw [List.length_append]; omega)] at hu; cases hu
    simp only [Array.getElem?_setIfInBounds, Array.size_setIfInBounds]
    by_cases hc : i < ks.length * 3
    · rw [List.getElem?_append_left (by omega)] at hu
      rw [if_neg (by omega), if_neg (by omega), if_neg (by omega)]
      exact h3 i u hu
    · rw [List.getElem?_append_right (by omega), hl] at hu
      have hcase : i = j * 3 ∨ i = j * 3 + 1 ∨ i = j * 3 + 2 := by omega
      rcases hcase with e | e | e
      · subst e
        rw [if_neg (by omega), if_neg (by omega), if_pos rfl, if_pos (by omega)]
        rw [show j * 3 - ks.length * 3 = 0 by omega] at hu
        simpa [Kv.cells] using hu
      · subst e
        rw [if_neg (by omega), if_pos rfl, if_pos (by omega)]
        rw [show j * 3 + 1 - ks.length * 3 = 1 by omega] at hu
        simpa [Kv.cells] using hu
      · subst e
        rw [if_pos rfl, if_pos (by omega)]
        rw [show j * 3 + 2 - ks.length * 3 = 2 by omega] at hu
        simpa [Kv.cells] using hu
  · have h5 : GL LoosE w1 ks (fun q => w.heap.size + 1 + 1 < q ∧ q < W.heap.size) := h.gl.keep loosE (fun q hq hlt => hb.block q hlt)
    have h6 := GL.snoc h5 (loosE.within hE) (fun q hq h' => by have := hq.2; have := h'.1; omega)
    have hsz : (((w1.setCell ⟨w.heap.size + 1 + 1, j * 3, none⟩ (.string kv.x.1)).setCell ⟨w.heap.size + 1 + 1, j * 3 + 1, none⟩ (.int .i64 kv.x.2)).setCell ⟨w.heap.size + 1 + 1, j * 3 + 2, none⟩ (.slice kv.a (lenF kv.l) kv.c)).heap.size = w1.heap.size := by simp
    rw [hsz]
    refine (h6.keep loosE (fun q hq _ => far q ?_)).mono (fun q hq => ?_)
    · rcases hq with hq | hq
      · have := hq.1; omega
      · have := hq.1; omega
    · rcases hq with hq | hq
      · exact ⟨hq.1, by omega⟩
      · exact ⟨by have := hq.1; omega, hq.2⟩
  · rw [take_snoc hj, List.map_append]
    exact h.done.snoc hR

set_option maxRecDepth 100000 in
set_option maxHeartbeats 4000000 in
theorem lay_of (S : Option Addr) (n cap : Nat) (l : List Sym) (N : Nat) (hN : N ≤ 1048576) (ih : ∀ j, j < N → LooseOk S n cap l j) (f : Int) (F : Fo) (a : Option Addr) (c : Nat) (w : World) (hF : nodesF F ≤ N) (hS : SigAt w S n l) (hA : ArgsAt w a F) :
    Calls Tryz.prog 45 #[.agg (headV S n cap l f), .slice a (lenF F) c] w fun e w' => ∃ (k : Kv) (rs : List Tn), e = .returned (.agg #[.string k.x.1, .int .i64 k.x.2, .slice k.a (lenF k.l) k.c]) ∧ All2 (LooseR (sgOf l) (arAt l)) (kidsL F) rs ∧ LayR (sgOf l) (kindK l f) f (unitI l f) rs k.tn ∧ LoosE w' (fun q => w.heap.size ≤ q) k ∧ Below w.heap.size w w' := by
  have HS := hid hS
  have HA := hid hA
  have IH := hid ih
  have hlen : lenF F ≤ 1048576 := by have := len_nodes F; omega
  obtain ⟨i0, hi, hz0, hz1, hz2⟩ := info_parts Tryz.info28
  have hmax : maxLen = 9223372036854775807 := rfl
  clear hS hA ih
  obtain ⟨hv, hhv⟩ : ∃ hv, headV S n cap l f = hv := ⟨_, rfl⟩
  have HHV := hid hhv
  have hv' := hhv
  unfold headV at hv'
  have HB0 : Hid (Below w.heap.size w ((w.alloc (.cells hv 84)).alloc (.cells #[.string ⟨#[]⟩, .int .i64 0, .slice none 0 0] 28))) := ((Below.refl _ w).alloc (Nat.le_refl _) _).alloc (by simp) _
  have HF0 : Hid (Box ((w.alloc (.cells hv 84)).alloc (.cells #[.string ⟨#[]⟩, .int .i64 0, .slice none 0 0] 28)) w.heap.size 84 hv) := (Box.new w 84 _).below ((Below.refl _ _).alloc (Nat.le_refl _) _)
  have HX0 : Hid (XBox ((w.alloc (.cells hv 84)).alloc (.cells #[.string ⟨#[]⟩, .int .i64 0, .slice none 0 0] 28)) (w.heap.size + 1) (⟨#[]⟩, 0) (.slice none 0 0)) := by
    have := World.alloc_heap_new (w.alloc (.cells hv 84)) (.cells #[.string ⟨#[]⟩, .int .i64 0, .slice none 0 0] 28)
    rw [World.size_alloc] at this
    exact this
  rw [hhv]
  clear hhv
  subst hv'
  go_enter Tryz.func45, Tryz.ntmps45
  go_wp2_with (at_make; refine wpList_make_full _ rfl _ _ 26 rfl 0 28 i0 (.agg #[.string ⟨#[]⟩, .int .i64 0, .slice none 0 0]) 3 Tryz.underlying26 hi hz0 hz1 .i64 .i64 _ _ (lenF F) rfl rfl rfl rfl (by rw [hz2]; omega) (by omega) (Nat.zero_le _) ?_; intro w0 hown0 hgrow0)
  have ST0 : Hid (LaySt (sgOf l) (arAt l) w #[.slice S n cap, .int .i64 f, .int .i64 (kindK l f), .int .i64 (unitI l f), .bool (unitOk l f)] F 0 [] w0) := by
    have hg0 : ∀ q, q < w.heap.size + 1 + 1 → w0.heap[q]? = ((w.alloc (.cells #[.slice S n cap, .int .i64 f, .int .i64 (kindK l f), .int .i64 (unitI l f), .bool (unitOk l f)] 84)).alloc (.cells #[.string ⟨#[]⟩, .int .i64 0, .slice none 0 0] 28)).heap[q]? := fun q hq => hgrow0.block q (by simp; omega) (by simp)
    refine ⟨HB0.out.grown hgrow0 (by simp; omega) (fun k e => by cases e), ?_, trivial, (hg0 _ (by omega)).trans HF0.out, (hg0 _ (by omega)).trans HX0.out, trivial, rfl⟩
    rcases hown0.2 with ⟨hv, _⟩ | ⟨g', cap', cur, hv, _, hh, _, _, hcs, _⟩
    · cases hv
    · cases hv
      rw [World.size_alloc, World.size_alloc] at hh
      exact ⟨cur, hh, hcs, fun i u hu => by simp [kvCells] at hu⟩
  clear hown0 hgrow0 HB0 HF0 HX0
  go_loopw [6, 7, 13] (fun _ _ i wr => ∃ (j : Nat) (ks : List Kv), j ≤ lenF F ∧ i = .int .i64 j ∧ LaySt (sgOf l) (arAt l) w #[.slice S n cap, .int .i64 f, .int .i64 (kindK l f), .int .i64 (unitI l f), .bool (unitOk l f)] F j ks wr) (fun _ _ i _ => lenF F - (intOf i).toNat)
  case atStart => exact ⟨0, [], Nat.zero_le _, rfl, ST0.out⟩
  case round =>
    obtain ⟨j, ks, hj, rfl, hst⟩ := hrel
    have ST := hid hst
    clear hst ST0
    by_cases hlt : j < lenF F
    · obtain ⟨bb, oo, rfl, hkk⟩ := HA.out.get (by omega)
      obtain ⟨y, a1, c1, l1, kd⟩ := hkk.kid (k := j) hlt
      have kd' := kd.below ST.out.low
      have p0 := kd'.name; have p1 := kd'.sym; have p2 := kd'.list
      have hb1 : Below wr.heap.size wr (wr.alloc (.cells #[.string y.1, .int .i64 y.2, .slice a1 (lenF l1) c1] 28)) := (Below.refl _ _).alloc (Nat.le_refl _) _
      have hjk : (kidsL F)[j]? = some (y, l1) := by
        obtain ⟨B1, O1, sp⟩ := kd.split
        have h1 := kids_drop j F
        rw [sp, kidsL] at h1
        have := congrArg (·[0]?) h1
        simpa using this.symm
      have hC := IH.out (nodesF l1) (by have := kd.less; omega) (y, l1) a1 c1 _ (Nat.le_refl _) (HS.out.below (ST.out.low.trans (hb1.mono ST.out.low.size))) (kd'.at_.below hb1)
      have q0 : (wr.alloc (.cells #[.string y.1, .int .i64 y.2, .slice a1 (lenF l1) c1] 28)).cell? ⟨w.heap.size, 0, none⟩ = some (.slice S n cap) := (ST.out.fbox.below hb1).c 0
      have HJK := hid hjk
      have HB1 := hid hb1
      have HC : Hid (Calls Tryz.prog 68 #[.slice S n cap, .agg #[.string y.1, .int .i64 y.2, .slice a1 (lenF l1) c1]] (wr.alloc (.cells #[.string y.1, .int .i64 y.2, .slice a1 (lenF l1) c1] 28)) fun e w' => ∃ k : Kv, e = .returned (.agg #[.string k.x.1, .int .i64 k.x.2, .slice k.a (lenF k.l) k.c]) ∧ LooseR (sgOf l) (arAt l) (y, l1) k.tn ∧ LoosE w' (fun q => (wr.alloc (.cells #[.string y.1, .int .i64 y.2, .slice a1 (lenF l1) c1] 28)).heap.size ≤ q) k ∧ Below (wr.alloc (.cells #[.string y.1, .int .i64 y.2, .slice a1 (lenF l1) c1] 28)).heap.size (wr.alloc (.cells #[.string y.1, .int .i64 y.2, .slice a1 (lenF l1) c1] 28)) w') := hC
      clear kd kd' hb1 hjk hC hkk
      go_wp2_with (first
        | (go_at_call 68; refine HC.out.mono ?_; rintro e w2 ⟨kv, rfl, hR, hE, hb2⟩; have HR := hid hR; have HW2 := hid (HB1.out.trans (hb2.mono HB1.out.size)); have HE : Hid (LoosE w2 (fun q => wr.heap.size ≤ q) kv) := loosE.mono (fun q hq => by rw [World.size_alloc] at hq; omega) hE; obtain ⟨u0, v0⟩ := ST.out.cell HW2.out (i := j * 3) (by omega); obtain ⟨u1, v1⟩ := ST.out.cell HW2.out (i := j * 3 + 1) (by omega); obtain ⟨u2, v2⟩ := ST.out.cell HW2.out (i := j * 3 + 2) (by omega); have f0 := ST.out.frozen HW2.out (j * 3); have f1 := ST.out.frozen HW2.out (j * 3 + 1); have f2 := ST.out.frozen HW2.out (j * 3 + 2); clear hR hE hb2 p0 p1 p2 q0)
        | fail)
      go_roundw
      case rel => exact ⟨j + 1, _, by omega, by go_num, ST.out.step HW2.out HE.out HJK.out HR.out⟩
      case measure => simp [intOf]; omega
    · have ej : j = lenF F := by omega
      subst ej
      have hkl : ks.length = lenF F := ST.out.len
      have hdone : All2 (LooseR (sgOf l) (arAt l)) (kidsL F) (ks.map Kv.tn) := by
        have := ST.out.done
        rwa [List.take_of_length_le (by rw [kids_len]; exact Nat.le_refl _)] at this
      have HDN := hid hdone
      have hss : sizes (ks.map Kv.tn) ≤ 1048576 := by
        have := loose_sizes hdone
        rw [← nodes_sizes] at this
        omega
      have hwl : w.heap.size + 1 + 1 < wr.heap.size := by
        obtain ⟨cur, h1, _⟩ := ST.out.row
        exact (Array.getElem?_eq_some_iff.1 h1).1
      have hRow : ∀ W, Below wr.heap.size wr W → RowL W (w.heap.size + 1 + 1) (lenF F) ks := fun W hb => by
        obtain ⟨cur, h1, h2, h3⟩ := ST.out.row
        exact ⟨⟨cur, (hb.block _ hwl).trans h1, h2, h3⟩, by omega⟩
      have hGl : ∀ W, Below wr.heap.size wr W → GL LoosE W ks (fun q => w.heap.size + 1 + 1 < q ∧ q < wr.heap.size) := fun W hb => ST.out.gl.keep loosE (fun q _ hq => hb.block q hq)
      have hSig : ∀ W, Below wr.heap.size wr W → SigLow (w.heap.size + 1 + 1) W S n l := fun W hb W' hW' => HS.out.below ((ST.out.low.trans (hb.mono (by omega))).trans (hW'.mono (by omega)))
      have fin : ∀ W w' (kv : Kv), Below wr.heap.size wr W → LoosE w' (fun q => ((w.heap.size + 1 + 1 < q ∧ q < wr.heap.size) ∨ q = w.heap.size + 1 + 1) ∨ W.heap.size ≤ q) kv → Turned (fun q => (w.heap.size + 1 + 1 < q ∧ q < wr.heap.size) ∨ q = w.heap.size + 1 + 1) W w' → LoosE w' (fun q => w.heap.size + 1 + 1 ≤ q) kv ∧ Below (w.heap.size + 1 + 1) W w' := fun W w' kv hb hE hT => ⟨loosE.mono (fun q hq => by
        have := hb.size
        rcases hq with (h | h) | h <;> omega) hE, hT.below (fun q hq => by rcases hq with h | h <;> omega) (by have := hb.size; omega)⟩
      have fb := ST.out.fbox
      have HXX := hid ST.out.rbox
      have HLOW := hid ST.out.low
      have q0 := fb.c 0; have q1 := fb.c 1; have q2 := fb.c 2; have q3 := fb.c 3; have q4 := fb.c 4
      have r0 := HXX.out.c0; have r1 := HXX.out.c1; have r2 := HXX.out.c2
      have g0 := HXX.out.f (k := 0); have g1 := HXX.out.f (k := 1); have g2 := HXX.out.f (k := 2)
      have HFB := hid fb
      clear fb
      rcases (show kindK l f = 1 ∨ kindK l f = 2 ∨ kindK l f = 3 by have := kindK_range l f; omega) with hk | hk | hk
      · have HC : Hid (∀ W, Below wr.heap.size wr W → Calls Tryz.prog 92 #[.agg #[.slice S n cap, .int .i64 f, .int .i64 1, .int .i64 (unitI l f), .bool (unitOk l f)], .slice (some ⟨w.heap.size + 1 + 1, 0, none⟩) (lenF F) (lenF F)] W fun e w' => ∃ kv : Kv, e = .returned (.agg #[.string kv.x.1, .int .i64 kv.x.2, .slice kv.a (lenF kv.l) kv.c]) ∧ LayR (sgOf l) 1 f (unitI l f) (ks.map Kv.tn) kv.tn ∧ LoosE w' (fun q => w.heap.size + 1 + 1 ≤ q) kv ∧ Below (w.heap.size + 1 + 1) W w') := fun W hb => by
          have hWs := hb.size
          have := keep_any S n cap l f ks (w.heap.size + 1 + 1) (lenF F) (w.heap.size + 1 + 1) (fun q => w.heap.size + 1 + 1 < q ∧ q < wr.heap.size) W (hSig W hb) (by omega) (fun q hq => by have := hq.1; omega) (Nat.le_refl _) (fun h => absurd h.1 (Nat.lt_irrefl _)) (hRow W hb) (hGl W hb) hss (by omega)
          rw [HHV.out, hk, hkl] at this
          refine this.mono ?_
          rintro e w' ⟨kv, rfl, hf, hE, hT⟩
          obtain ⟨f1, f2⟩ := fin W w' kv hb hE hT
          exact ⟨kv, rfl, by unfold LayR; rw [if_pos rfl]; exact hf, f1, f2⟩
        rw [hk] at q2 HFB ⊢
        clear hRow hGl hSig fin hdone hss HHV
        have hix := idx1
        go_wp2_with fail
        go_region_held3 (fun w' => w'.cell? ⟨w.heap.size, 0, none⟩ = some (.slice S n cap) ∧ w'.cell? ⟨w.heap.size, 1, none⟩ = some (.int .i64 f) ∧ w'.cell? ⟨w.heap.size, 2, none⟩ = some (.int .i64 1) ∧ w'.cell? ⟨w.heap.size, 3, none⟩ = some (.int .i64 (unitI l f)) ∧ w'.cell? ⟨w.heap.size, 4, none⟩ = some (.bool (unitOk l f))) ((first | (go_split_ands; refine ⟨?_, ?_, ?_, ?_, ?_⟩ <;> (refine below_cell HB2.out _ _ ?_; assumption)) | (go_split_ands; refine ⟨?_, ?_, ?_, ?_, ?_⟩ <;> (refine (HB3.out.cell (by show w.heap.size < _; omega)).trans ?_; assumption)) | go_keep | fail)) ((first | (go_at_call 69; refine (layings_any _).mono ?_; rintro e w2 ⟨rfl, hb2⟩; have HB2 : Hid (Below wr.heap.size wr w2) := ((Below.refl _ wr).drew).trans hb2; clear hb2; unfold laysV) | (go_at_call 92; refine (HC.out _ HB2.out).mono ?_; rintro e w3 ⟨kv, rfl, hl3, hE3, hb3⟩; have HL3 := hid hl3; have HE3 := hid hE3; have HB3 := hid hb3; have HX3 : XBox w3 (w.heap.size + 1) (⟨#[]⟩, 0) (.slice none 0 0) := (hb3.block _ (by omega)).trans (HXX.out.below HB2.out); have y0 := HX3.c0; have y1 := HX3.c1; have y2 := HX3.c2; have z0 := HX3.f (k := 0); have z1 := HX3.f (k := 1); have z2 := HX3.f (k := 2); have HXX3 := hid HX3; clear hl3 hE3 hb3 HX3) | fail))
        all_goals go_wp2_with fail
        all_goals refine bodyPost_ret (results_cell_row rfl _ _ (w.heap.size + 1) 28 #[.string kv.x.1, .int .i64 kv.x.2, .slice kv.a (lenF kv.l) kv.c] (0, 0) _ rfl (HXX3.out.all (x := kv.x) _) Tryz.underlying28 rfl Tryz.size28) rfl ?_
        all_goals refine ⟨kv, ks.map Kv.tn, rfl, HDN.out, by rw [hk]; exact HL3.out, ?_, ?_⟩
        all_goals first
          | exact loosE.mono (fun q hq => by omega) (loosE.keep (fun q hq _ => sets_far (by omega) _ _ _) HE3.out)
          | exact sets_below ((HLOW.out.trans (HB2.out.mono (by omega))).trans (HB3.out.mono (by omega))) (by omega) _ _ _
      · have HC : Hid (∀ W, Below wr.heap.size wr W → Calls Tryz.prog 93 #[.agg #[.slice S n cap, .int .i64 f, .int .i64 2, .int .i64 (unitI l f), .bool (unitOk l f)], .slice (some ⟨w.heap.size + 1 + 1, 0, none⟩) (lenF F) (lenF F)] W fun e w' => ∃ kv : Kv, e = .returned (.agg #[.string kv.x.1, .int .i64 kv.x.2, .slice kv.a (lenF kv.l) kv.c]) ∧ LayR (sgOf l) 2 f (unitI l f) (ks.map Kv.tn) kv.tn ∧ LoosE w' (fun q => w.heap.size + 1 + 1 ≤ q) kv ∧ Below (w.heap.size + 1 + 1) W w') := fun W hb => by
          have hWs := hb.size
          have := flatten_any S n cap l f ks (some ⟨w.heap.size + 1 + 1, 0, none⟩) (lenF F) (w.heap.size + 1 + 1) (fun q => w.heap.size + 1 + 1 < q ∧ q < wr.heap.size) W (hSig W hb) (by omega) (fun q hq => by have := hq.1; omega) (fun W' hW' => ((hRow W hb).keep (hW'.block _ (by omega) (fun h => absurd h.1 (Nat.lt_irrefl _)))).at_) (hGl W hb) (by rw [hk]; decide) hss
          rw [HHV.out, hk, hkl] at this
          refine this.mono ?_
          rintro e w' ⟨kv, rfl, hf, hE, hT⟩
          obtain ⟨f1, f2⟩ := fin W w' kv hb (loosE.mono (fun q hq => by rcases hq with h | h; exact .inl (.inl h); exact .inr h) hE) (hT.mono (fun q _ hq => .inl hq))
          exact ⟨kv, rfl, by unfold LayR; rw [if_neg (by decide), if_pos rfl]; exact hf, f1, f2⟩
        rw [hk] at q2 HFB ⊢
        clear hRow hGl hSig fin hdone hss HHV
        have hix := idx2
        go_wp2_with fail
        go_region_held3 (fun w' => w'.cell? ⟨w.heap.size, 0, none⟩ = some (.slice S n cap) ∧ w'.cell? ⟨w.heap.size, 1, none⟩ = some (.int .i64 f) ∧ w'.cell? ⟨w.heap.size, 2, none⟩ = some (.int .i64 2) ∧ w'.cell? ⟨w.heap.size, 3, none⟩ = some (.int .i64 (unitI l f)) ∧ w'.cell? ⟨w.heap.size, 4, none⟩ = some (.bool (unitOk l f))) ((first | (go_split_ands; refine ⟨?_, ?_, ?_, ?_, ?_⟩ <;> (refine below_cell HB2.out _ _ ?_; assumption)) | (go_split_ands; refine ⟨?_, ?_, ?_, ?_, ?_⟩ <;> (refine (HB3.out.cell (by show w.heap.size < _; omega)).trans ?_; assumption)) | go_keep | fail)) ((first | (go_at_call 69; refine (layings_any _).mono ?_; rintro e w2 ⟨rfl, hb2⟩; have HB2 : Hid (Below wr.heap.size wr w2) := ((Below.refl _ wr).drew).trans hb2; clear hb2; unfold laysV) | (go_at_call 93; refine (HC.out _ HB2.out).mono ?_; rintro e w3 ⟨kv, rfl, hl3, hE3, hb3⟩; have HL3 := hid hl3; have HE3 := hid hE3; have HB3 := hid hb3; have HX3 : XBox w3 (w.heap.size + 1) (⟨#[]⟩, 0) (.slice none 0 0) := (hb3.block _ (by omega)).trans (HXX.out.below HB2.out); have y0 := HX3.c0; have y1 := HX3.c1; have y2 := HX3.c2; have z0 := HX3.f (k := 0); have z1 := HX3.f (k := 1); have z2 := HX3.f (k := 2); have HXX3 := hid HX3; clear hl3 hE3 hb3 HX3) | fail))
        all_goals go_wp2_with fail
        all_goals refine bodyPost_ret (results_cell_row rfl _ _ (w.heap.size + 1) 28 #[.string kv.x.1, .int .i64 kv.x.2, .slice kv.a (lenF kv.l) kv.c] (0, 0) _ rfl (HXX3.out.all (x := kv.x) _) Tryz.underlying28 rfl Tryz.size28) rfl ?_
        all_goals refine ⟨kv, ks.map Kv.tn, rfl, HDN.out, by rw [hk]; exact HL3.out, ?_, ?_⟩
        all_goals first
          | exact loosE.mono (fun q hq => by omega) (loosE.keep (fun q hq _ => sets_far (by omega) _ _ _) HE3.out)
          | exact sets_below ((HLOW.out.trans (HB2.out.mono (by omega))).trans (HB3.out.mono (by omega))) (by omega) _ _ _
      · have HC : Hid (∀ W, Below wr.heap.size wr W → Calls Tryz.prog 94 #[.agg #[.slice S n cap, .int .i64 f, .int .i64 3, .int .i64 (unitI l f), .bool (unitOk l f)], .slice (some ⟨w.heap.size + 1 + 1, 0, none⟩) (lenF F) (lenF F)] W fun e w' => ∃ kv : Kv, e = .returned (.agg #[.string kv.x.1, .int .i64 kv.x.2, .slice kv.a (lenF kv.l) kv.c]) ∧ LayR (sgOf l) 3 f (unitI l f) (ks.map Kv.tn) kv.tn ∧ LoosE w' (fun q => w.heap.size + 1 + 1 ≤ q) kv ∧ Below (w.heap.size + 1 + 1) W w') := fun W hb => by
          have hWs := hb.size
          have := unite_any S n cap l f ks (w.heap.size + 1 + 1) (lenF F) (w.heap.size + 1 + 1) (fun q => w.heap.size + 1 + 1 < q ∧ q < wr.heap.size) W (hSig W hb) (by omega) (fun q hq => by have := hq.1; omega) (Nat.le_refl _) (fun h => absurd h.1 (Nat.lt_irrefl _)) (hRow W hb) (hGl W hb) (by rw [hk]; decide) hss (by omega)
          rw [HHV.out, hk, hkl] at this
          refine this.mono ?_
          rintro e w' ⟨kv, rfl, hf, hE, hT⟩
          obtain ⟨f1, f2⟩ := fin W w' kv hb hE hT
          exact ⟨kv, rfl, by unfold LayR; rw [if_neg (by decide), if_neg (by decide)]; exact hf, f1, f2⟩
        rw [hk] at q2 HFB ⊢
        clear hRow hGl hSig fin hdone hss HHV
        have hix := idx3
        go_wp2_with fail
        go_region_held3 (fun w' => w'.cell? ⟨w.heap.size, 0, none⟩ = some (.slice S n cap) ∧ w'.cell? ⟨w.heap.size, 1, none⟩ = some (.int .i64 f) ∧ w'.cell? ⟨w.heap.size, 2, none⟩ = some (.int .i64 3) ∧ w'.cell? ⟨w.heap.size, 3, none⟩ = some (.int .i64 (unitI l f)) ∧ w'.cell? ⟨w.heap.size, 4, none⟩ = some (.bool (unitOk l f))) ((first | (go_split_ands; refine ⟨?_, ?_, ?_, ?_, ?_⟩ <;> (refine below_cell HB2.out _ _ ?_; assumption)) | (go_split_ands; refine ⟨?_, ?_, ?_, ?_, ?_⟩ <;> (refine (HB3.out.cell (by show w.heap.size < _; omega)).trans ?_; assumption)) | go_keep | fail)) ((first | (go_at_call 69; refine (layings_any _).mono ?_; rintro e w2 ⟨rfl, hb2⟩; have HB2 : Hid (Below wr.heap.size wr w2) := ((Below.refl _ wr).drew).trans hb2; clear hb2; unfold laysV) | (go_at_call 94; refine (HC.out _ HB2.out).mono ?_; rintro e w3 ⟨kv, rfl, hl3, hE3, hb3⟩; have HL3 := hid hl3; have HE3 := hid hE3; have HB3 := hid hb3; have HX3 : XBox w3 (w.heap.size + 1) (⟨#[]⟩, 0) (.slice none 0 0) := (hb3.block _ (by omega)).trans (HXX.out.below HB2.out); have y0 := HX3.c0; have y1 := HX3.c1; have y2 := HX3.c2; have z0 := HX3.f (k := 0); have z1 := HX3.f (k := 1); have z2 := HX3.f (k := 2); have HXX3 := hid HX3; clear hl3 hE3 hb3 HX3) | fail))
        all_goals go_wp2_with fail
        all_goals refine bodyPost_ret (results_cell_row rfl _ _ (w.heap.size + 1) 28 #[.string kv.x.1, .int .i64 kv.x.2, .slice kv.a (lenF kv.l) kv.c] (0, 0) _ rfl (HXX3.out.all (x := kv.x) _) Tryz.underlying28 rfl Tryz.size28) rfl ?_
        all_goals refine ⟨kv, ks.map Kv.tn, rfl, HDN.out, by rw [hk]; exact HL3.out, ?_, ?_⟩
        all_goals first
          | exact loosE.mono (fun q hq => by omega) (loosE.keep (fun q hq _ => sets_far (by omega) _ _ _) HE3.out)
          | exact sets_below ((HLOW.out.trans (HB2.out.mono (by omega))).trans (HB3.out.mono (by omega))) (by omega) _ _ _
end Go.Proofs.YtppgmepmegelbaaGreatDoor
/- What loose of package canon makes: a term's loose form. -/
namespace Go.Proofs.YtppgmepmegelbaaGreatDoor
open Go.RowKit Go.Deep

theorem mod_leaf {S : Sg} {ar : Int → Nat} {x : ByteArray × Int} {F : Fo} (h : noName x.1 = false ∨ lenF F = 0) : LooseR S ar (x, F) (x, F) := by
  refine ⟨Nat.le_refl _, fun hS hR => ?_⟩
  obtain ⟨hn, hF⟩ := hR
  have hn : nodeOk S ar x (lenF F) := hn
  unfold nodeOk at hn
  have key : canonT S (x, F) = (x, F) ∧ jn S (x, F) = false := by
    cases hx : noName x.1 with
    | false =>
      rw [if_pos hx] at hn
      obtain ⟨h1, h2⟩ := hn
      have hF := len_nil h2
      subst hF
      obtain ⟨x1, x2⟩ := x
      dsimp only at h1 hx
      subst h1
      refine ⟨?_, by unfold jn; simp [hx]⟩
      unfold canonT canon1
      rw [if_pos hx]
    | true =>
      rw [if_neg (by rw [hx]; simp)] at hn
      have h0 : lenF F = 0 := by
        rcases h with h | h
        · rw [hx] at h; cases h
        · exact h
      have hF := len_nil h0
      subst hF
      have hj : S.joins x.2 = false := by
        cases hj : S.joins x.2 with
        | false => rfl
        | true => rw [if_pos hj] at hn; simp [lenF] at hn
      obtain ⟨x1, x2⟩ := x
      have e1 : x1 = noB := noName_eq hx
      subst e1
      refine ⟨?_, by unfold jn; simp only; rw [hj]; simp⟩
      unfold canonT canon1
      rw [if_neg (by rw [hx]; simp)]
      show (if S.joins x2 = true then _ else _) = _
      rw [hj]
      rfl
  rw [key.1]
  exact ⟨rfl, by rw [key.2]; simp⟩

set_option maxRecDepth 100000 in
set_option maxHeartbeats 2000000 in
theorem loose_of (S : Option Addr) (n cap : Nat) (l : List Sym) (N : Nat) (hN : N ≤ 1048576) (ih : ∀ j, j < N → LooseOk S n cap l j) : LooseOk S n cap l N := by
  intro t a c w hF hS hT
  obtain ⟨⟨nm, s⟩, F⟩ := t
  have HB0 : Hid (Below w.heap.size w ((w.alloc (.cells #[.string nm, .int .i64 s, .slice a (lenF F) c] 28)).alloc (.cells #[.string ⟨#[]⟩, .int .i64 0, .slice none 0 0] 28))) := ((Below.refl _ w).alloc (Nat.le_refl _) _).alloc (by simp) _
  have HX0 : Hid (XBox ((w.alloc (.cells #[.string nm, .int .i64 s, .slice a (lenF F) c] 28)).alloc (.cells #[.string ⟨#[]⟩, .int .i64 0, .slice none 0 0] 28)) (w.heap.size + 1) (⟨#[]⟩, 0) (.slice none 0 0)) := by
    have := World.alloc_heap_new (w.alloc (.cells #[.string nm, .int .i64 s, .slice a (lenF F) c] 28)) (.cells #[.string ⟨#[]⟩, .int .i64 0, .slice none 0 0] 28)
    rw [World.size_alloc] at this
    exact this
  have HT0 : Hid (XBox ((w.alloc (.cells #[.string nm, .int .i64 s, .slice a (lenF F) c] 28)).alloc (.cells #[.string ⟨#[]⟩, .int .i64 0, .slice none 0 0] 28)) w.heap.size (nm, s) (.slice a (lenF F) c)) := (Below.heap_alloc _ _ _ (by simp)).trans (World.alloc_heap_new w _)
  have HCL : Hid (∀ W, Below w.heap.size w W → Calls Tryz.prog 21 #[.agg #[.string nm, .int .i64 s, .slice a (lenF F) c]] W fun e w' => ∃ a' c', e = .returned (.agg #[.string nm, .int .i64 s, .slice a' (lenF F) c']) ∧ SepTm w' (fun k => W.heap.size ≤ k) (nm, s) a' c' F ∧ Below W.heap.size W w' ∧ (lenF F = 0 → a' = none ∧ c' = 0)) := fun W hW => clone_any (nm, s) F a c W (TmAt.below hT hW)
  have HHD : Hid (∀ W, Below w.heap.size w W → Calls Tryz.prog 43 #[.slice S n cap, .int .i64 s] W fun e w' => e = .returned (.agg (headV S n cap l s)) ∧ Below W.heap.size W w') := fun W hW => headAt_any S n cap l s W (hS.below hW)
  have HLY : Hid (∀ W, Below w.heap.size w W → Calls Tryz.prog 45 #[.agg (headV S n cap l s), .slice a (lenF F) c] W fun e w' => ∃ (k : Kv) (rs : List Tn), e = .returned (.agg #[.string k.x.1, .int .i64 k.x.2, .slice k.a (lenF k.l) k.c]) ∧ All2 (LooseR (sgOf l) (arAt l)) (kidsL F) rs ∧ LayR (sgOf l) (kindK l s) s (unitI l s) rs k.tn ∧ LoosE w' (fun q => W.heap.size ≤ q) k ∧ Below W.heap.size W w') := fun W hW => lay_of S n cap l N hN ih s F a c W hF (hS.below hW) (hT.args.below hW)
  clear hS hT ih
  have leaf : Hid (noName nm = false ∨ lenF F = 0 → ∀ W2 (w2 : World) a' c', SepTm w2 (fun k => w.heap.size + 2 ≤ k) (nm, s) a' c' F → (lenF F = 0 → a' = none ∧ c' = 0) → Below w.heap.size w w2 → W2 = (((w2.setCell ⟨w.heap.size + 1, 0, none⟩ (.string nm)).setCell ⟨w.heap.size + 1, 1, none⟩ (.int .i64 s)).setCell ⟨w.heap.size + 1, 2, none⟩ (.slice a' (lenF F) c')) → LooseR (sgOf l) (arAt l) ((nm, s), F) ((nm, s), F) ∧ LoosE W2 (fun q => w.heap.size ≤ q) ⟨(nm, s), F, a', c'⟩ ∧ Below w.heap.size w W2) := fun h W2 w2 a' c' h1 h2 h3 e => by
    subst e
    refine ⟨mod_leaf h, ⟨?_, fun hn => .inl ?_⟩, sets_below h3 (by omega) _ _ _⟩
    · exact sepE.mono (fun q hq => by omega) (sepE.keep (k := ⟨(nm, s), F, a', c'⟩) (fun q hq _ => sets_far (by omega) _ _ _) h1)
    · have h0 : lenF F = 0 := by
        rcases h with h | h
        · rw [show noName nm = true from hn] at h; cases h
        · exact h
      exact ⟨(h2 h0).1, (h2 h0).2, h0⟩
  have c0 := HT0.out.c0; have c1 := HT0.out.c1; have c2 := HT0.out.c2
  cases hn : nm.toList.isEmpty
  · go_enter Tryz.func68, Tryz.ntmps68
    go_wp2_with (first
      | (go_at_call 21; refine (HCL.out _ HB0.out).mono ?_; rintro e w2 ⟨a', c', rfl, hs2, hb2, hz2⟩; have HS2 : Hid (SepTm w2 (fun k => w.heap.size + 2 ≤ k) (nm, s) a' c' F) := SepTm.mono (fun q hq => by rw [World.size_alloc, World.size_alloc] at hq; omega) hs2; have HZ2 := hid hz2; have HB2 := hid (HB0.out.trans (hb2.mono (by simp; omega))); have HX2 := HX0.out.below hb2; have y0 := HX2.c0; have y1 := HX2.c1; have y2 := HX2.c2; have z0 := HX2.f (k := 0); have z1 := HX2.f (k := 1); have z2 := HX2.f (k := 2); have HXX := hid HX2; clear hs2 hb2 hz2 HX2)
      | fail)
    refine bodyPost_ret (results_cell_row rfl _ _ (w.heap.size + 1) 28 #[.string nm, .int .i64 s, .slice a' (lenF F) c'] (0, 0) _ rfl (HXX.out.all (x := (nm, s)) _) Tryz.underlying28 rfl Tryz.size28) rfl ?_
    obtain ⟨e1, e2, e3⟩ := leaf.out (.inl hn) _ w2 a' c' HS2.out HZ2.out HB2.out rfl
    exact ⟨⟨(nm, s), F, a', c'⟩, rfl, e1, e2, e3⟩
  · by_cases h0 : lenF F = 0
    · have hz : ((lenF F : Int) == 0) = true := by simp [h0]
      have H0 := hid h0
      clear h0
      go_enter Tryz.func68, Tryz.ntmps68
      go_wp2_with (first
        | (go_at_call 21; refine (HCL.out _ HB0.out).mono ?_; rintro e w2 ⟨a', c', rfl, hs2, hb2, hz2⟩; have HS2 : Hid (SepTm w2 (fun k => w.heap.size + 2 ≤ k) (nm, s) a' c' F) := SepTm.mono (fun q hq => by rw [World.size_alloc, World.size_alloc] at hq; omega) hs2; have HZ2 := hid hz2; have HB2 := hid (HB0.out.trans (hb2.mono (by simp; omega))); have HX2 := HX0.out.below hb2; have y0 := HX2.c0; have y1 := HX2.c1; have y2 := HX2.c2; have z0 := HX2.f (k := 0); have z1 := HX2.f (k := 1); have z2 := HX2.f (k := 2); have HXX := hid HX2; clear hs2 hb2 hz2 HX2)
        | fail)
      refine bodyPost_ret (results_cell_row rfl _ _ (w.heap.size + 1) 28 #[.string nm, .int .i64 s, .slice a' (lenF F) c'] (0, 0) _ rfl (HXX.out.all (x := (nm, s)) _) Tryz.underlying28 rfl Tryz.size28) rfl ?_
      obtain ⟨e1, e2, e3⟩ := leaf.out (.inr H0.out) _ w2 a' c' HS2.out HZ2.out HB2.out rfl
      exact ⟨⟨(nm, s), F, a', c'⟩, rfl, e1, e2, e3⟩
    · have hz : ((lenF F : Int) == 0) = false := by simpa using h0
      have H0 := hid h0
      clear h0
      go_enter Tryz.func68, Tryz.ntmps68
      have HSZ0 : Hid (((w.alloc (.cells #[.string nm, .int .i64 s, .slice a (lenF F) c] 28)).alloc (.cells #[.string ⟨#[]⟩, .int .i64 0, .slice none 0 0] 28)).heap.size = w.heap.size + 2) := by show _ = _; simp
      go_wp2_with fail
      generalize (w.alloc (.cells #[.string nm, .int .i64 s, .slice a (lenF F) c] 28)).alloc (.cells #[.string ⟨#[]⟩, .int .i64 0, .slice none 0 0] 28) = W0 at HB0 HX0 HT0 HSZ0 c0 c1 c2 ⊢
      go_region_held3 (fun w' => w'.cell? ⟨w.heap.size, 1, none⟩ = some (.int .i64 s) ∧ w'.cell? ⟨w.heap.size, 2, none⟩ = some (.slice a (lenF F) c)) ((first | (go_split_ands; refine ⟨?_, ?_⟩ <;> (refine below_cell HB1.out _ _ ?_; assumption)) | (go_split_ands; refine ⟨?_, ?_⟩ <;> (refine below_cell (HB1.out.trans (HB3.out.mono HB1.out.size)) _ _ ?_; assumption)) | go_keep | fail)) ((first
        | (go_at_call 43; refine (HHD.out _ HB0.out.drew).mono ?_; rintro e w1 ⟨rfl, hb1⟩; have HB1 : Hid (Below W0.heap.size W0 w1) := ((Below.refl _ W0).drew).trans hb1; clear hb1)
        | (go_at_call 45; refine (HLY.out _ (HB0.out.trans (HB1.out.mono HB0.out.size))).mono ?_; rintro e w3 ⟨kv, rs, rfl, ha3, hl3, hE3, hb3⟩; have HA3 := hid ha3; have HL3 := hid hl3; have HE3 := hid hE3; have HB3 := hid hb3; have HX3 := (HX0.out.below HB1.out).below hb3; have y0 := HX3.c0; have y1 := HX3.c1; have y2 := HX3.c2; have z0 := HX3.f (k := 0); have z1 := HX3.f (k := 1); have z2 := HX3.f (k := 2); have HXX := hid HX3; clear ha3 hl3 hE3 hb3 HX3)
        | fail))
      all_goals go_wp2_with fail
      all_goals refine bodyPost_ret (results_cell_row rfl _ _ (w.heap.size + 1) 28 #[.string kv.x.1, .int .i64 kv.x.2, .slice kv.a (lenF kv.l) kv.c] (0, 0) _ rfl (HXX.out.all (x := kv.x) _) Tryz.underlying28 rfl Tryz.size28) rfl ?_
      all_goals have hs1 : w.heap.size + 2 ≤ w1.heap.size := (by have := HB1.out.size; have := HSZ0.out; omega)
      all_goals exact ⟨kv, rfl, lay_loose (x := (nm, s)) (kindK_ok l s) hn H0.out HA3.out HL3.out, loosE.mono (fun q hq => by omega) (loosE.keep (fun q hq _ => sets_far (by omega) _ _ _) HE3.out), sets_below (HB0.out.trans ((HB1.out.mono HB0.out.size).trans (HB3.out.mono (by omega)))) (by omega) _ _ _⟩
theorem loose_all (S : Option Addr) (n cap : Nat) (l : List Sym) : ∀ N, N ≤ 1048576 → LooseOk S n cap l N := by
  intro N
  induction N using Nat.strongRecOn with
  | _ N ih => exact fun hN => loose_of S n cap l N hN (fun j hj => ih j hj (by omega))
end Go.Proofs.YtppgmepmegelbaaGreatDoor
/- What Canon, Is and Equal of package canon answer. -/
namespace Go.Proofs.YtppgmepmegelbaaGreatDoor
open Go.RowKit Go.Deep

/-- No greater than t, whatever t is; of a right one the canonical form. -/
def CanR (l : List Sym) (t r : Tn) : Prop := sizeT r ≤ sizeT t ∧ ((sgOf l).Ok (arAt l) → RightT (sgOf l) (arAt l) t → r = canonT (sgOf l) t)
theorem canR_of {l : List Sym} {t r r' : Tn} (h : LooseR (sgOf l) (arAt l) t r) (k : SetR (sgOf l) r r') : CanR l t r' :=
  ⟨by rw [set_size k]; exact h.1, fun hS hR => mod_set (canonT_can hS hR) (h.2 hS hR) k⟩

end Go.Proofs.YtppgmepmegelbaaGreatDoor
/- What Parts of package canon answers. -/
namespace Go.Proofs.YtppgmepmegelbaaGreatDoor
open Go.RowKit Go.Deep

/-- A list of new terms that a slice holds, none of which shares a block with another. -/
structure NewL (B : Nat) (w : World) (a : Option Addr) (c : Nat) (ks : List Kv) : Prop where
  row : RowAt w a ks.length ks
  gl : GL SepE w ks (fun q => B ≤ q ∧ ∀ b o, a = some ⟨b, o, none⟩ → q ≠ b)
  nil : a = none → c = 0
  new : ∀ b o, a = some ⟨b, o, none⟩ → B ≤ b
  cap : ks.length ≤ c ∧ c ≤ maxLen
theorem newL_clone {w : World} {B : Nat} {x : ByteArray × Int} {a : Option Addr} {c : Nat} {F : Fo} (h : SepTm w (fun q => B ≤ q) x a c F) (hz : lenF F = 0 → a = none ∧ c = 0) : ∃ ks : List Kv, ks.map Kv.tn = kidsL F ∧ ks.length = lenF F ∧ NewL B w a c ks := by
  rcases h.list with e | ⟨g, cur, e1, e2, e3, e4⟩
  · subst e
    obtain ⟨rfl, rfl⟩ := hz rfl
    exact ⟨[], rfl, rfl, RowAt.empty _ _, trivial, fun _ => rfl, (fun b o e => by cases e), Nat.le_refl _, Nat.zero_le _⟩
  · subst e1
    obtain ⟨ks, k1, k2, k3⟩ := sepKids_list e4
    have hl : ks.length = lenF F := by have := congrArg List.length k1; rwa [List.length_map, kids_len] at this
    exact ⟨ks, k1, hl, ⟨rfl, fun j u hu => ⟨g, 0, rfl, k2 j u hu⟩⟩, k3.mono (fun q hq => ⟨hq.1, fun b o e => by cases e; exact hq.2⟩), (fun e => by cases e), (fun b o e => by cases e; exact e2), by rw [hl]; exact h.sizes.len, h.sizes.cap⟩
theorem parts_eq (l : List Sym) (f : Int) (t : Tn) : partsN (sgOf l) f t = if (!decide (kindK l f = 1) && headed f t) = true then kidsL t.2 else if isUnB l f t then [] else [t] := by
  rw [isUnB_eq]
  have hk := kindK_ok l f
  unfold partsN
  by_cases h1 : kindK l f = 1
  · have hj := hk.free.1 h1
    have hu : isUn (sgOf l) f t = false := by
      have : unitAt l f = none := by
        by_cases hin : 0 ≤ f ∧ f.toNat < l.length
        · obtain ⟨n, rfl⟩ := Int.eq_ofNat_of_zero_le hin.1
          have hn : n < l.length := by simpa using hin.2
          refine unit_not hn ?_
          unfold kindK at h1
          rw [symAt_in hn] at h1
          dsimp only at h1
          intro e
          rw [e] at h1
          simp at h1
        · exact unit_out hin
      unfold isUn
      show (match (unitAt l f).map (fun (i : Nat) => (i : Int)) with | some u => isConst t u | none => false) = false
      rw [this]
      rfl
    rw [hj, hu]
    simp [h1]
  · have hj : (sgOf l).joins f = true := by
      cases h : (sgOf l).joins f with
      | true => rfl
      | false => exact absurd (hk.free.2 h) h1
    rw [hj]
    cases hu : isUn (sgOf l) f t with
    | false => simp [h1]
    | true =>
      obtain ⟨u, _, rfl⟩ := isUn_some hu
      cases hh : headed f (constT u) <;> simp [h1, constT, kidsL]

theorem field2 (s : ByteArray) (i : Int) (a : Option Addr) (n c : Nat) (W : World) : (Instr.field 28 (.agg #[.string s, .int .i64 i, .slice a n c]) 2).run Tryz.prog W = .ok (.slice a n c) W := by kernel_rfl

end Go.Proofs.YtppgmepmegelbaaGreatDoor
/- What the document's Parts answers, of any term. -/
namespace Go.Proofs.YtppgmepmegelbaaGreatDoor
open Go.RowKit Go.Deep

set_option maxRecDepth 100000 in
/-- A list of one new term. -/
theorem Lst.one {B : Nat} {W : World} (k : Kv) (hB : B ≤ W.heap.size) (h : OwnTm false (fun q => B ≤ q) W k.x k.a k.c k.l) : Lst B (W.alloc (.cells #[.string k.x.1, .int .i64 k.x.2, .slice k.a (lenF k.l) k.c] 28)) (.slice (some ⟨W.heap.size, 0, none⟩) 1 1) [k] := by
  refine ⟨⟨rfl, .inr ⟨W.heap.size, 1, _, rfl, hB, World.alloc_heap_new W _, Nat.le_refl _, by decide, rfl, rfl⟩⟩, fun k' hk => ?_⟩
  simp only [List.mem_singleton] at hk
  subst hk
  have h2 : OwnTm false (fun q => B ≤ q ∧ some q ≠ some W.heap.size) W k'.x k'.a k'.c k'.l := h.mono (fun q hq hp => ⟨hp, fun e => by cases e; omega⟩)
  exact h2.below ((Below.refl _ _).alloc (Nat.le_refl _) _)

set_option maxRecDepth 100000 in
set_option maxHeartbeats 2000000 in
theorem parts_any (a : Option Addr) (n cap : Nat) (l : List Sym) (f : Int) (t : Tn) (ta : Option Addr) (tc : Nat) (w : World) (hS : SigAt w a n l) (hT : TmAt w t.1 ta tc t.2) :
    Calls Tryz.prog 31 #[.slice a n cap, .int .i64 f, .agg #[.string t.1.1, .int .i64 t.1.2, .slice ta (lenF t.2) tc]] w fun e w' => ∃ v ks, e = .returned v ∧ Lst w.heap.size w' v ks ∧ (ks = [] → v = .slice none 0 0) ∧ ks.map Kv.tn = partsN (sgOf l) f t ∧ Below w.heap.size w w' := by
  obtain ⟨⟨nm, sy⟩, F⟩ := t
  have HS : Hid (SigAt w a n l) := hS
  have HT : Hid (TmAt w (nm, sy) ta tc F) := hT
  have hb := TBox.new w (nm, sy) ta (lenF F) tc
  have hlow : Hid (Below w.heap.size w (w.alloc (.cells #[.string nm, .int .i64 sy, .slice ta (lenF F) tc] 28))) := (Below.refl _ w).alloc (Nat.le_refl _) _
  have HJ : Hid (∀ W, Below w.heap.size w W → Calls Tryz.prog 30 #[.slice a n cap, .int .i64 f] W fun e w' => e = .returned (.bool (joinsAt l f)) ∧ Below W.heap.size W w') := fun W hW => joins_any a n cap l f W (HS.out.below hW)
  have HU : Hid (∀ W, Below w.heap.size w W → Calls Tryz.prog 33 #[.slice a n cap, .int .i64 f] W fun e w' => UnitRet l f e ∧ w' = W) := fun W hW => runit_any a n cap l f W (HS.out.below hW)
  have HC : Hid (∀ u W, Calls Tryz.prog 55 #[.agg #[.string nm, .int .i64 sy, .slice ta (lenF F) tc], .int .i64 u] W fun e w' => e = .returned (.bool (isConst ((nm, sy), F) u)) ∧ Below W.heap.size W w') := fun u W => constant_any ((nm, sy), F) ta tc u W (by have := HT.out.sizes.few; show lenF F ≤ _; omega)
  have HL : Hid (∀ W, Below w.heap.size w W → Calls Tryz.prog 54 #[.agg #[.string nm, .int .i64 sy, .slice ta (lenF F) tc]] W fun e w' => ∃ a' c', e = .returned (.agg #[.string nm, .int .i64 sy, .slice a' (lenF F) c']) ∧ RowTm W.heap.size w' (nm, sy) a' c' F ∧ Below W.heap.size W w') := fun W hW => rclone_any (nm, sy) F ta tc W (HT.out.below hW)
  have HK : Hid (∀ W, Below w.heap.size w W → Calls Tryz.prog 56 #[.slice ta (lenF F) tc] W fun e w' => ∃ v ks, e = .returned v ∧ Lst W.heap.size w' v ks ∧ (ks = [] → v = .slice none 0 0) ∧ ks.map Kv.tn = kidsL F ∧ Below W.heap.size W w') := fun W hW => clones_any ta F tc W (HT.out.args.below hW) (by have := HT.out.sizes.few; omega)
  clear hS hT
  cases hj : joinsAt l f
  · have e : Hid (partsN (sgOf l) f ((nm, sy), F) = [((nm, sy), F)]) := by show _ = _; unfold partsN; rw [if_pos (show (sgOf l).joins f = false from hj)]
    go_enter Tryz.func31, Tryz.ntmps31
    rw [hj] at HJ
    go_wp2_with (first
      | (go_at_call 30; refine (HJ.out _ hlow.out).mono ?_; rintro e w1 ⟨rfl, hb1⟩; have HB1 : Hid (Below w.heap.size w w1) := hlow.out.trans (hb1.mono (by simp)); have hbx := hb.below hb1; have HBX : Hid (TBox w1 w.heap.size (nm, sy) ta (lenF F) tc) := hbx; have c0 := hbx.c0; have c1 := hbx.c1; have c2 := hbx.c2; clear hb1 hbx)
      | (go_at_call 54; refine (HL.out _ HB1.out).mono ?_; rintro e w2 ⟨a', c', rfl, ho2, hb2⟩; have HO2 : Hid (RowTm w1.heap.size w2 (nm, sy) a' c' F) := ho2; have HB2 : Hid (Below w.heap.size w w2) := HB1.out.trans (hb2.mono HB1.out.size); clear ho2 hb2))
    go_ret
    refine ⟨_, [⟨(nm, sy), F, a', c'⟩], rfl, Lst.one ⟨(nm, sy), F, a', c'⟩ HB2.out.size (HO2.out.own.mono (fun q _ hq => Nat.le_trans HB1.out.size hq)), (fun h => by simp at h), by rw [e.out]; rfl, HB2.out.alloc HB2.out.size _⟩
  · have hj' : ¬ (sgOf l).joins f = false := by show ¬ joinsAt l f = false; rw [hj]; simp
    have rest : isUn (sgOf l) f ((nm, sy), F) = false → partsN (sgOf l) f ((nm, sy), F) = if headed f ((nm, sy), F) then kidsL F else [((nm, sy), F)] := fun h => by unfold partsN; rw [if_neg hj', if_neg (by rw [h]; simp)]
    have REST : Hid (isUn (sgOf l) f ((nm, sy), F) = false → partsN (sgOf l) f ((nm, sy), F) = if headed f ((nm, sy), F) then kidsL F else [((nm, sy), F)]) := rest
    have NONE : Hid (isUn (sgOf l) f ((nm, sy), F) = true → partsN (sgOf l) f ((nm, sy), F) = []) := fun h => by unfold partsN; rw [if_neg hj', if_pos h]
    clear rest hj'
    obtain ⟨ui, hui⟩ : ∃ ui, unitI l f = ui := ⟨_, rfl⟩
    cases huo : unitOk l f
    · have hun : Hid (isUn (sgOf l) f ((nm, sy), F) = false) := by show _ = _; unfold unitOk at huo; cases hq : unitAt l f with | none => simp [isUn, sgOf, hq] | some i => rw [hq] at huo; simp at huo
      cases hn : nm.toList.isEmpty
      · have e : Hid (partsN (sgOf l) f ((nm, sy), F) = [((nm, sy), F)]) := by show _ = _; rw [REST.out hun.out]; unfold headed noName; rw [hn]; simp
        go_enter Tryz.func31, Tryz.ntmps31
        rw [hj] at HJ
        go_wp2_with (first
          | (go_at_call 30; refine (HJ.out _ hlow.out).mono ?_; rintro e w1 ⟨rfl, hb1⟩; have HB1 : Hid (Below w.heap.size w w1) := hlow.out.trans (hb1.mono (by simp)); have hbx := hb.below hb1; have HBX : Hid (TBox w1 w.heap.size (nm, sy) ta (lenF F) tc) := hbx; have c0 := hbx.c0; have c1 := hbx.c1; have c2 := hbx.c2; clear hb1 hbx)
          | (go_at_call 33; refine (HU.out _ HB1.out).mono ?_; rintro e w9 ⟨he, hw9⟩; unfold UnitRet at he; rw [hui, huo] at he; subst he; rw [hw9]; clear hw9)
          | (go_at_call 54; refine (HL.out _ HB1.out).mono ?_; rintro e w2 ⟨a', c', rfl, ho2, hb2⟩; have HO2 : Hid (RowTm w1.heap.size w2 (nm, sy) a' c' F) := ho2; have HB2 : Hid (Below w.heap.size w w2) := HB1.out.trans (hb2.mono HB1.out.size); clear ho2 hb2))
        go_ret
        refine ⟨_, [⟨(nm, sy), F, a', c'⟩], rfl, Lst.one ⟨(nm, sy), F, a', c'⟩ HB2.out.size (HO2.out.own.mono (fun q _ hq => Nat.le_trans HB1.out.size hq)), (fun h => by simp at h), by rw [e.out]; rfl, HB2.out.alloc HB2.out.size _⟩
      · cases hs : (sy == f)
        · have e : Hid (partsN (sgOf l) f ((nm, sy), F) = [((nm, sy), F)]) := by show _ = _; rw [REST.out hun.out]; unfold headed; rw [hs]; simp
          go_enter Tryz.func31, Tryz.ntmps31
          rw [hj] at HJ
          go_wp2_with (first
            | (go_at_call 30; refine (HJ.out _ hlow.out).mono ?_; rintro e w1 ⟨rfl, hb1⟩; have HB1 : Hid (Below w.heap.size w w1) := hlow.out.trans (hb1.mono (by simp)); have hbx := hb.below hb1; have HBX : Hid (TBox w1 w.heap.size (nm, sy) ta (lenF F) tc) := hbx; have c0 := hbx.c0; have c1 := hbx.c1; have c2 := hbx.c2; clear hb1 hbx)
            | (go_at_call 33; refine (HU.out _ HB1.out).mono ?_; rintro e w9 ⟨he, hw9⟩; unfold UnitRet at he; rw [hui, huo] at he; subst he; rw [hw9]; clear hw9)
            | (go_at_call 54; refine (HL.out _ HB1.out).mono ?_; rintro e w2 ⟨a', c', rfl, ho2, hb2⟩; have HO2 : Hid (RowTm w1.heap.size w2 (nm, sy) a' c' F) := ho2; have HB2 : Hid (Below w.heap.size w w2) := HB1.out.trans (hb2.mono HB1.out.size); clear ho2 hb2))
          go_ret
          refine ⟨_, [⟨(nm, sy), F, a', c'⟩], rfl, Lst.one ⟨(nm, sy), F, a', c'⟩ HB2.out.size (HO2.out.own.mono (fun q _ hq => Nat.le_trans HB1.out.size hq)), (fun h => by simp at h), by rw [e.out]; rfl, HB2.out.alloc HB2.out.size _⟩
        · have e : Hid (partsN (sgOf l) f ((nm, sy), F) = kidsL F) := by show _ = _; rw [REST.out hun.out]; unfold headed noName; rw [hn, hs]; simp
          go_enter Tryz.func31, Tryz.ntmps31
          rw [hj] at HJ
          go_wp2_with (first
            | (go_at_call 30; refine (HJ.out _ hlow.out).mono ?_; rintro e w1 ⟨rfl, hb1⟩; have HB1 : Hid (Below w.heap.size w w1) := hlow.out.trans (hb1.mono (by simp)); have hbx := hb.below hb1; have HBX : Hid (TBox w1 w.heap.size (nm, sy) ta (lenF F) tc) := hbx; have c0 := hbx.c0; have c1 := hbx.c1; have c2 := hbx.c2; clear hb1 hbx)
            | (go_at_call 33; refine (HU.out _ HB1.out).mono ?_; rintro e w9 ⟨he, hw9⟩; unfold UnitRet at he; rw [hui, huo] at he; subst he; rw [hw9]; clear hw9)
            | (go_at_call 56; refine (HK.out _ HB1.out).mono ?_; rintro e w2 ⟨v, ks, rfl, ho2, hn2, hm2, hb2⟩; have HO2 : Hid (Lst w.heap.size w2 v ks) := ho2.base HB1.out.size; have HN2 : Hid (ks = [] → v = .slice none 0 0) := hn2; have HM2 : Hid (ks.map Kv.tn = kidsL F) := hm2; have HB2 : Hid (Below w.heap.size w w2) := HB1.out.trans (hb2.mono HB1.out.size); clear ho2 hn2 hm2 hb2))
          go_ret
          refine ⟨v, ks, rfl, HO2.out, HN2.out, by rw [HM2.out, e.out], HB2.out⟩
    · have hcc : Hid (isUn (sgOf l) f ((nm, sy), F) = isConst ((nm, sy), F) ui) := by
        show _ = _
        rw [← hui]
        unfold unitOk at huo
        cases hq : unitAt l f with
        | none => rw [hq] at huo; simp at huo
        | some i => simp [isUn, sgOf, unitI, hq]
      cases hcu : isConst ((nm, sy), F) ui
      · have hun : Hid (isUn (sgOf l) f ((nm, sy), F) = false) := by show _ = _; rw [hcc.out, hcu]
        cases hn : nm.toList.isEmpty
        · have e : Hid (partsN (sgOf l) f ((nm, sy), F) = [((nm, sy), F)]) := by show _ = _; rw [REST.out hun.out]; unfold headed noName; rw [hn]; simp
          go_enter Tryz.func31, Tryz.ntmps31
          rw [hj] at HJ
          go_wp2_with (first
            | (go_at_call 30; refine (HJ.out _ hlow.out).mono ?_; rintro e w1 ⟨rfl, hb1⟩; have HB1 : Hid (Below w.heap.size w w1) := hlow.out.trans (hb1.mono (by simp)); have hbx := hb.below hb1; have HBX : Hid (TBox w1 w.heap.size (nm, sy) ta (lenF F) tc) := hbx; have c0 := hbx.c0; have c1 := hbx.c1; have c2 := hbx.c2; clear hb1 hbx)
            | (go_at_call 33; refine (HU.out _ HB1.out).mono ?_; rintro e w9 ⟨he, hw9⟩; unfold UnitRet at he; rw [hui, huo] at he; subst he; rw [hw9]; clear hw9)
            | (go_at_call 55; refine (HC.out _ _).mono ?_; rintro e w3 ⟨he, hb3⟩; rw [hcu] at he; subst he; have HB3 : Hid (Below w.heap.size w w3) := HB1.out.trans (hb3.mono HB1.out.size); have hby := HBX.out.below hb3; have d0 := hby.c0; have d1 := hby.c1; have d2 := hby.c2; clear hb3 hby)
            | (go_at_call 54; refine (HL.out _ HB3.out).mono ?_; rintro e w2 ⟨a', c', rfl, ho2, hb2⟩; have HO2 : Hid (RowTm w3.heap.size w2 (nm, sy) a' c' F) := ho2; have HB2 : Hid (Below w.heap.size w w2) := HB3.out.trans (hb2.mono HB3.out.size); clear ho2 hb2))
          go_ret
          refine ⟨_, [⟨(nm, sy), F, a', c'⟩], rfl, Lst.one ⟨(nm, sy), F, a', c'⟩ HB2.out.size (HO2.out.own.mono (fun q _ hq => Nat.le_trans HB3.out.size hq)), (fun h => by simp at h), by rw [e.out]; rfl, HB2.out.alloc HB2.out.size _⟩
        · cases hs : (sy == f)
          · have e : Hid (partsN (sgOf l) f ((nm, sy), F) = [((nm, sy), F)]) := by show _ = _; rw [REST.out hun.out]; unfold headed; rw [hs]; simp
            go_enter Tryz.func31, Tryz.ntmps31
            rw [hj] at HJ
            go_wp2_with (first
              | (go_at_call 30; refine (HJ.out _ hlow.out).mono ?_; rintro e w1 ⟨rfl, hb1⟩; have HB1 : Hid (Below w.heap.size w w1) := hlow.out.trans (hb1.mono (by simp)); have hbx := hb.below hb1; have HBX : Hid (TBox w1 w.heap.size (nm, sy) ta (lenF F) tc) := hbx; have c0 := hbx.c0; have c1 := hbx.c1; have c2 := hbx.c2; clear hb1 hbx)
              | (go_at_call 33; refine (HU.out _ HB1.out).mono ?_; rintro e w9 ⟨he, hw9⟩; unfold UnitRet at he; rw [hui, huo] at he; subst he; rw [hw9]; clear hw9)
              | (go_at_call 55; refine (HC.out _ _).mono ?_; rintro e w3 ⟨he, hb3⟩; rw [hcu] at he; subst he; have HB3 : Hid (Below w.heap.size w w3) := HB1.out.trans (hb3.mono HB1.out.size); have hby := HBX.out.below hb3; have d0 := hby.c0; have d1 := hby.c1; have d2 := hby.c2; clear hb3 hby)
              | (go_at_call 54; refine (HL.out _ HB3.out).mono ?_; rintro e w2 ⟨a', c', rfl, ho2, hb2⟩; have HO2 : Hid (RowTm w3.heap.size w2 (nm, sy) a' c' F) := ho2; have HB2 : Hid (Below w.heap.size w w2) := HB3.out.trans (hb2.mono HB3.out.size); clear ho2 hb2))
            go_ret
            refine ⟨_, [⟨(nm, sy), F, a', c'⟩], rfl, Lst.one ⟨(nm, sy), F, a', c'⟩ HB2.out.size (HO2.out.own.mono (fun q _ hq => Nat.le_trans HB3.out.size hq)), (fun h => by simp at h), by rw [e.out]; rfl, HB2.out.alloc HB2.out.size _⟩
          · have e : Hid (partsN (sgOf l) f ((nm, sy), F) = kidsL F) := by show _ = _; rw [REST.out hun.out]; unfold headed noName; rw [hn, hs]; simp
            go_enter Tryz.func31, Tryz.ntmps31
            rw [hj] at HJ
            go_wp2_with (first
              | (go_at_call 30; refine (HJ.out _ hlow.out).mono ?_; rintro e w1 ⟨rfl, hb1⟩; have HB1 : Hid (Below w.heap.size w w1) := hlow.out.trans (hb1.mono (by simp)); have hbx := hb.below hb1; have HBX : Hid (TBox w1 w.heap.size (nm, sy) ta (lenF F) tc) := hbx; have c0 := hbx.c0; have c1 := hbx.c1; have c2 := hbx.c2; clear hb1 hbx)
              | (go_at_call 33; refine (HU.out _ HB1.out).mono ?_; rintro e w9 ⟨he, hw9⟩; unfold UnitRet at he; rw [hui, huo] at he; subst he; rw [hw9]; clear hw9)
              | (go_at_call 55; refine (HC.out _ _).mono ?_; rintro e w3 ⟨he, hb3⟩; rw [hcu] at he; subst he; have HB3 : Hid (Below w.heap.size w w3) := HB1.out.trans (hb3.mono HB1.out.size); have hby := HBX.out.below hb3; have d0 := hby.c0; have d1 := hby.c1; have d2 := hby.c2; clear hb3 hby)
              | (go_at_call 56; refine (HK.out _ HB3.out).mono ?_; rintro e w2 ⟨v, ks, rfl, ho2, hn2, hm2, hb2⟩; have HO2 : Hid (Lst w.heap.size w2 v ks) := ho2.base HB3.out.size; have HN2 : Hid (ks = [] → v = .slice none 0 0) := hn2; have HM2 : Hid (ks.map Kv.tn = kidsL F) := hm2; have HB2 : Hid (Below w.heap.size w w2) := HB3.out.trans (hb2.mono HB3.out.size); clear ho2 hn2 hm2 hb2))
            go_ret
            refine ⟨v, ks, rfl, HO2.out, HN2.out, by rw [HM2.out, e.out], HB2.out⟩
      · have e : Hid (partsN (sgOf l) f ((nm, sy), F) = []) := NONE.out (by rw [hcc.out, hcu])
        go_enter Tryz.func31, Tryz.ntmps31
        rw [hj] at HJ
        go_wp2_with (first
          | (go_at_call 30; refine (HJ.out _ hlow.out).mono ?_; rintro e w1 ⟨rfl, hb1⟩; have HB1 : Hid (Below w.heap.size w w1) := hlow.out.trans (hb1.mono (by simp)); have hbx := hb.below hb1; have HBX : Hid (TBox w1 w.heap.size (nm, sy) ta (lenF F) tc) := hbx; have c0 := hbx.c0; have c1 := hbx.c1; have c2 := hbx.c2; clear hb1 hbx)
          | (go_at_call 33; refine (HU.out _ HB1.out).mono ?_; rintro e w9 ⟨he, hw9⟩; unfold UnitRet at he; rw [hui, huo] at he; subst he; rw [hw9]; clear hw9)
          | (go_at_call 55; refine (HC.out _ _).mono ?_; rintro e w3 ⟨he, hb3⟩; rw [hcu] at he; subst he; have HB3 : Hid (Below w.heap.size w w3) := HB1.out.trans (hb3.mono HB1.out.size); have hby := HBX.out.below hb3; have d0 := hby.c0; have d1 := hby.c1; have d2 := hby.c2; clear hb3 hby))
        go_ret
        exact ⟨_, [], rfl, Lst.nil _ _, fun _ => rfl, by rw [e.out]; rfl, HB3.out⟩
end Go.Proofs.YtppgmepmegelbaaGreatDoor
