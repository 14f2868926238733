/- What Parts hands out, to any loop. -/
import Derived.Test.YtlbmamkkbpjafabBTal
import Derived.Test.YtlbmamkkbpjafabBLess
import Derived.Test.YtlbmamkkbpjafabBBack
namespace Go.Proofs.Ytlbmamkkbpjafab
open Go.RowKit Go.Shelf

attribute [local go_sem] Oper.semAt_some

set_option maxRecDepth 100000 in
set_option maxHeartbeats 2000000 in
/-- The closure that tells a part's counts. -/
theorem count_cl (X g : Nat) (cs : List Int) (y : It) (i : Nat) (hi : i < cs.length) (base : Nat) (w : World) (hX : w.heap[X]? = some (.cells #[.slice (some ⟨g, 0, none⟩) cs.length cs.length] 53 (0, 0))) (hR : CRow w base (some ⟨g, 0, none⟩) cs.length cs) :
    Calls Try.prog 22 (#[.int .i64 i, itV y] ++ #[.pointer (some ⟨X, 0, none⟩)]) w fun e w' => e = .returned (.int .i64 cs[i]) ∧ Below w.heap.size w w' := by
  obtain ⟨⟨yk, ym⟩, yn⟩ := y
  have b1 := alloc_below0 w (.cells #[.int .i64 yk, .int .i64 ym, .int .i64 yn] 32)
  have x0 := cell_box ((b1.block X (Array.getElem?_eq_some_iff.1 hX).1).trans hX) (i := 0) rfl
  obtain ⟨g', hg, _, _, ec⟩ := crow_cell (crow_below hR b1) i hi
  cases hg
  have HB := hid b1
  have hiz : (i : Int) < (cs.length : Int) := by omega
  generalize cs[i] = v at ec ⊢
  generalize cs.length = n at x0 hiz
  clear hX hR b1
  show Calls Try.prog 22 #[.int .i64 i, .agg #[.int .i64 yk, .int .i64 ym, .int .i64 yn], .pointer (some ⟨X, 0, none⟩)] w _
  go_enter Try.func22, Try.ntmps22
  go_wp2_with fail
  go_ret
  exact ⟨rfl, HB.out⟩
theorem crow_same {W W' : World} {base G d : Nat} {cs : List Int} (h : CRow W base (some ⟨G, 0, none⟩) d cs) (hs : W'.heap[G]? = W.heap[G]?) : CRow W' base (some ⟨G, 0, none⟩) d cs :=
  ⟨h.1, h.2.imp id (fun ⟨g, cap, cur, h1, h2, h3, h4⟩ => ⟨g, cap, cur, h1, h2, by
    have h5 : G = g := by cases h1; rfl
    subst h5
    exact hs.trans h3, h4⟩)⟩
theorem res_bv {e : Ending} {K P Q : Prop} (h : K ∧ ((e = .returned (.bool true) ∧ P) ∨ (e = .returned (.bool false) ∧ Q))) : ∃ bv, e = .returned (.bool bv) ∧ K ∧ ((bv = true ∧ P) ∨ (bv = false ∧ Q)) := by
  obtain ⟨hk, (⟨rfl, hp⟩ | ⟨rfl, hq⟩)⟩ := h
  · exact ⟨true, rfl, hk, .inl ⟨rfl, hp⟩⟩
  · exact ⟨false, rfl, hk, .inr ⟨rfl, hq⟩⟩
theorem tallies_any (q : Option Addr) (n d : Nat) (w : World) : Calls Try.prog 20 #[.slice q n d] w fun e w' => e = .returned (.func (.func 30) #[] #[.pointer (some ⟨w.heap.size, 0, none⟩)]) ∧ w' = w.alloc (.cells #[.slice q n d] 29) := by
  go_enter Try.func20, Try.ntmps20
  go_wp2
  go_ret
  exact ⟨rfl, rfl⟩
theorem round_inRound {F : Fence} {n : Nat} {P : Program} {lq : Nat} {f : FuncId} {tmps : Array Value} {assign body : Code} {w : World} {R : Ending → World → Prop} (l : Nat) (h : RoundIn F n P lq f tmps assign body w R) : RoundIn (F.inRound l) n P lq f tmps assign body w R := h
/-- What Parts keeps as it goes: its boxes, its own copy of the items, the block for deferred calls. -/
structure PK (Z lo Y2 Y3 D : Nat) (l : List It) (p : Option Addr) (c : Nat) (W : World) : Prop where
  y2 : W.heap[Y2]? = some (.cells #[.func (.yield lo) #[] #[]] 37 (0, 0))
  y3 : W.heap[Y3]? = some (.cells #[.slice p l.length c] 29 (0, 0))
  yi : W.heap[Y3 + 1]? = some (.cells #[.slice p l.length c] 29 (0, 0))
  row : W.ownsRow Z 32 3 (.slice p l.length c) l.length (itAll l)
  rb : ∀ k, (Value.slice p l.length c).ownBlock = some k → k < D
  df : W.heap[D]? = some (.deferred (some []))
  bd : Z ≤ Y2 ∧ Y2 < D ∧ Z ≤ Y3 ∧ Y3 + 1 < D
theorem PK.same {Z lo Y2 Y3 D : Nat} {l : List It} {p : Option Addr} {c : Nat} {W W' : World} (h : PK Z lo Y2 Y3 D l p c W) (hs : ∀ b, Z ≤ b → b ≤ D → W'.heap[b]? = W.heap[b]?) : PK Z lo Y2 Y3 D l p c W' := by
  obtain ⟨a1, a2, a3, a4⟩ := h.bd
  refine ⟨(hs _ a1 (by omega)).trans h.y2, (hs _ a3 (by omega)).trans h.y3, (hs _ (by omega) (by omega)).trans h.yi, ⟨h.row.1, h.row.2.imp id (fun ⟨g, cap, cur, h1, h2, h3, h4⟩ => ⟨g, cap, cur, h1, h2, (hs g h2 ?_).trans h3, h4⟩)⟩, h.rb, (hs D (by omega) (Nat.le_refl _)).trans h.df, h.bd⟩
  exact Nat.le_of_lt (h.rb g (by rw [h1]; rfl))
theorem PK.fr {Z lo Y2 Y3 D : Nat} {l : List It} {p : Option Addr} {c : Nat} {W W' : World} {A : Nat → Prop} (h : PK Z lo Y2 Y3 D l p c W) (hf : Fr A W W') (hA : ∀ b, A b → D < b) : PK Z lo Y2 Y3 D l p c W' :=
  h.same fun b _ hb => hf.same b (Nat.lt_of_le_of_lt hb (Array.getElem?_eq_some_iff.1 h.df).1) fun ha => by have := hA b ha; omega
theorem fr_one {W : World} (l : Nat) (o : Obj) : Fr (fun b => b = l) W (W.putObj l o) :=
  ⟨⟨rfl, rfl, rfl, by rw [show (W.putObj l o).heap.size = W.heap.size by simp [World.putObj]]; exact Nat.le_refl _, fun k hk => absurd hk (Nat.not_lt_zero k)⟩, fun _ _ hA => World.putObj_heap_other hA⟩
theorem parts_start (Z lo : Nat) (l : List It) (p : Option Addr) (c : Nat) (w0 w1 : World) (r : Loop) (V : World) (hV : V = (w1.alloc (.cells #[.slice p l.length c] 29)).alloc (.cells #[.slice p l.length c] 29)) (hb : Below Z w0 w1) (n1 : w1.heap[Z]? = some (.cells #[.func (.yield lo) #[] #[]] 37 (0, 0))) (hO : w1.ownsRow (Z + 1) 32 3 (.slice p l.length c) l.length (itAll l)) :
    V.heap.size = w1.heap.size + 1 + 1 ∧ Z < w1.heap.size ∧ PK Z lo Z w1.heap.size V.heap.size l p c ((V.alloc (.deferred (some []))).alloc (.loop r)) ∧ ((V.alloc (.deferred (some []))).alloc (.loop r)).heap[V.heap.size + 1]? = some (.loop r) ∧ ((V.alloc (.deferred (some []))).alloc (.loop r)).heap.size = V.heap.size + 1 + 1 ∧ Below Z w0 ((V.alloc (.deferred (some []))).alloc (.loop r)) := by
  have b2 := alloc_below0 w1 (.cells #[.slice p l.length c] 29)
  have n2 := World.alloc_heap_new w1 (.cells #[.slice p l.length c] 29)
  have b3 := alloc_below0 (w1.alloc (.cells #[.slice p l.length c] 29)) (.cells #[.slice p l.length c] 29)
  have n3 := World.alloc_heap_new (w1.alloc (.cells #[.slice p l.length c] 29)) (.cells #[.slice p l.length c] 29)
  rw [← hV] at b3 n3
  have hs : V.heap.size = w1.heap.size + 1 + 1 := by rw [hV]; simp only [World.size_alloc]
  have b5 := alloc_below0 V (.deferred (some []))
  have n5 := World.alloc_heap_new V (.deferred (some []))
  have b6 := alloc_below0 (V.alloc (.deferred (some []))) (.loop r)
  have n6 := World.alloc_heap_new (V.alloc (.deferred (some []))) (.loop r)
  have hs6 : ((V.alloc (.deferred (some []))).alloc (.loop r)).heap.size = V.heap.size + 1 + 1 := by simp only [World.size_alloc]
  simp only [World.size_alloc] at b3 n3 b6 n6
  have hZ1 : Z < w1.heap.size := (Array.getElem?_eq_some_iff.1 n1).1
  have B6 := b5.trans (b6.mono (by omega))
  have BB := (b2.trans (b3.mono (by omega))).trans (B6.mono (by omega))
  refine ⟨hs, hZ1, ⟨(BB.block Z hZ1).trans n1, (B6.block _ (by omega)).trans ((b3.block _ (by omega)).trans n2), (B6.block _ (by omega)).trans n3, owns65_mono (owns65_below hO BB) (by omega), fun k hk => ?_, (b6.block _ (by omega)).trans n5, by omega, by omega, by omega, by omega⟩, n6, hs6, hb.trans (BB.mono (by omega))⟩
  have := (hO.lt k hk).2
  omega
set_option maxRecDepth 100000 in
set_option maxHeartbeats 4000000 in
theorem parts_in (m lo Bb B base : Nat) (p : Option Addr) (c : Nat) (l : List It) (hl : Bg l) (hln : l.length ≤ 1048576) (hpos : ∀ y ∈ l, y.2 ≤ 1000000000) (M : Nat) (J : Nat → Nat → Option (List Int) → World → Prop) (Jx : Nat → World → Prop) (W0 : World)
    (hst : ∀ B1 k st W W', J B1 k st W → Fr (fun b => W0.heap.size ≤ b ∧ b < B1) W W' → J B1 k st W')
    (hstx : ∀ B1 W W', Jx B1 W → Fr (fun b => W0.heap.size ≤ b ∧ b < B1) W W' → Jx B1 W')
    (hbag : ∀ B1 k st W, J B1 k st W → W.heap[Bb]? = some (.cells #[.pointer (some ⟨B, 0, none⟩)] 23 (0, 0)) ∧ BagBox W B (.slice p l.length c))
    (hY : ∀ mm B1 k cs W Bp pp cp, W0.heap.size ≤ B1 → k < M → J B1 k (some cs) W → cs.length = l.length → BagAt B1 Bp W (partP l cs) pp cp → B1 ≤ Bp → YieldAt Fence.wide mm Try.prog lo #[.pointer (some ⟨Bp, 0, none⟩)] W fun e W' =>
      (∀ b, W0.heap.size ≤ b → b < B1 → W'.heap[b]? = W.heap[b]?) ∧ ((e = .returned (.bool true) ∧ k + 1 < M ∧ J B1 (k + 1) (riseO l cs) W') ∨ (e = .returned (.bool false) ∧ Jx B1 W')))
    (hM : 0 < M) (h0 : ∀ B1, W0.heap.size ≤ B1 → J B1 0 (some (List.replicate l.length 0)) W0) (hA : BagAt base B W0 l p c) :
    CallsIn Fence.wide (m + 8) Try.prog 19 #[.func (.yield lo) #[] #[], .pointer (some ⟨Bb, 0, none⟩)] W0 fun e W' => (∃ v, e = .returned v) ∧ (∃ B1, W0.heap.size ≤ B1 ∧ ((∃ k, J B1 k none W') ∨ Jx B1 W')) := by
  have b1 := alloc_below0 W0 (.cells #[.func (.yield lo) #[] #[]] 37)
  have n1 := World.alloc_heap_new W0 (.cells #[.func (.yield lo) #[] #[]] 37)
  have kb0 := (hbag _ _ _ _ (h0 _ (Nat.le_refl _))).1
  have kb := cell_box ((b1.block Bb (Array.getElem?_eq_some_iff.1 kb0).1).trans kb0) (i := 0) rfl
  have HI := hid (items_any base B p c l _ (hA.below b1) hln)
  have hs1 : (W0.alloc (.cells #[.func (.yield lo) #[] #[]] 37)).heap.size = W0.heap.size + 1 := World.size_alloc _ _
  have HST := hid hst; have HSTX := hid hstx; have HBAG := hid hbag; have HY := hid hY; have H0 := hid h0
  have B1' := hid b1; have N1 := hid n1; have HS1 := hid hs1
  clear hst hstx hbag hY h0 hA b1 n1 kb0 hs1
  refine callsIn_of_wp_marks Try.func19 rfl trivial ?_ rfl
  simp only [Try.ntmps19, List.size_toArray, List.length_cons, List.length_nil, Nat.reduceAdd, Nat.reduceSub, Array.replicate_succ, Array.replicate_zero, List.push_toArray, List.append_toArray, List.nil_append, List.cons_append]
  gi_wp2_with fail
  refine ⟨trivial, ?_⟩
  refine (callsIn_wide.2 HI.out).mono ?_
  rintro e w1 ⟨v', rfl, hO1, hb1⟩
  obtain ⟨p', c', rfl⟩ := owns65_form hO1
  have y1 : (w1.alloc (.cells #[.slice none 0 0] 29)).cell? ⟨w1.heap.size, 0, none⟩ = some (.slice none 0 0) := cell_box (World.alloc_heap_new w1 _) rfl
  gi_wp2_with fail
  refine ⟨trivial, ?_⟩
  refine (callsIn_wide.2 (tallies_any p' l.length c' _)).mono ?_
  rintro e w2 ⟨rfl, rfl⟩
  gi_wp2_with fail
  have hZw : Below W0.heap.size W0 w1 := B1'.out.trans (hb1.mono (by have := HS1.out; omega))
  have hNZ : w1.heap[W0.heap.size]? = some (.cells #[.func (.yield lo) #[] #[]] 37 (0, 0)) := (hb1.block _ (by have := HS1.out; omega)).trans N1.out
  rw [HS1.out] at hO1
  have HPS := hid (fun r => parts_start W0.heap.size lo l p' c' W0 w1 r _ rfl hZw hNZ hO1)
  clear y1 kb HI hO1 hb1 hZw hNZ N1 B1'
  generalize ((w1.alloc (.cells #[.slice p' l.length c'] 29)).alloc (.cells #[.slice p' l.length c'] 29)) = V at HPS ⊢
  have hVs := (HPS.out default).1; have hZ1 := (HPS.out default).2.1
  generalize hZZ : W0.heap.size = Z at HPS HST HSTX HY H0 hZ1 ⊢
  generalize hYY : w1.heap.size = Y3 at HPS hVs hZ1 ⊢
  refine range_law rfl (by omega) (gf := 30) (lb := #[.pointer (some ⟨Y3 + 1, 0, none⟩)]) rfl trivial (enters_of Try.func30 (by kernel_rfl) rfl) ?_
  intro r hr1 hr2 hr3 hr4 hr5 hr6 hr7
  obtain ⟨_, _, hP0, hL0, hS0, hB0⟩ := HPS.out r
  generalize hD : V.heap.size = D at hVs hP0 hL0 hS0 ⊢
  generalize ((V.alloc (.deferred (some []))).alloc (.loop r)) = W1 at hP0 hL0 hS0 hB0 ⊢
  refine (tal_in (m + 8 - 1) (by omega) (D + 1) (Y3 + 1) p' c' Z l hln hpos M
    (fun k st W => PK Z lo Z Y3 D l p' c' W ∧ W.heap[D + 1]? = some (.loop r) ∧ J (W1.heap.size + 1) k st W)
    (fun W => W.heap[D]? = some (.deferred (some [])) ∧ W.heap[D + 1]? = some (.loop { r with state := .done, pending := some .ret }) ∧ Jx (W1.heap.size + 1) W) W1 ?_ ?_ ?_ hM ?_).mono ?_
  · rintro k st W W' ⟨hp, hL, hj⟩ hf
    exact ⟨hp.fr hf (fun b e => by omega), (hf.same _ (Array.getElem?_eq_some_iff.1 hL).1 (by omega)).trans hL, HST.out _ k st W W' hj (hf.mono (fun b e => ⟨by omega, by omega⟩))⟩
  · rintro k st W ⟨hp, _, _⟩
    exact ⟨hp.yi, hp.row⟩
  · rintro k cs W hk ⟨hp, hL, hj⟩ hcl hcr
    refine yield_by hr5 hr6 hr3 hr4 hL hr1 rfl hr7 ?_
    have HG : Hid (W1.heap.size = D + 1 + 1 ∧ D = Y3 + 1 + 1 ∧ Z < Y3) := hid ⟨hS0, hVs, hZ1⟩
    have HP := hid hp; have HL := hid hL; have HJ := hid hj; have HCL := hid hcl; have HCR := hid hcr
    clear hr3 hr4 hr5 hr6 hp hL hj hcl hcr hP0 hL0 hB0 hS0 hVs hZ1
    generalize W1.heap.size = G at HG HJ HCR ⊢
    simp only [List.zip_toArray, List.zip_cons_cons, List.zip_nil_right, List.foldl_toArray, List.foldl_cons, List.foldl_nil, List.setIfInBounds_toArray, List.set_cons_succ, List.set_cons_zero]
    gi_wp2
    have hg := HG.out
    have hlt : D + 1 < W.heap.size := (Array.getElem?_eq_some_iff.1 HL.out).1
    have ba := alloc_below0 W (.cells #[.slice (some ⟨G, 0, none⟩) l.length l.length] 53)
    have na := World.alloc_heap_new W (.cells #[.slice (some ⟨G, 0, none⟩) l.length l.length] 53)
    refine ⟨(ba.block _ hlt).trans HL.out, ?_⟩
    have fr12 := (Fr.of_below (A := fun b => b = D + 1) ba).trans (fr_one (D + 1) (.loop { r with state := .busy }))
    have hP2 := HP.out.fr fr12 (fun b e => by omega)
    have hJ2 := HST.out _ _ _ _ _ HJ.out (fr12.mono (fun b e => ⟨by omega, by omega⟩))
    have hL2 := World.putObj_heap_same (w := W.alloc (.cells #[.slice (some ⟨G, 0, none⟩) l.length l.length] 53)) (o := .loop { r with state := .busy }) (show D + 1 < _ from Nat.lt_of_lt_of_le hlt ba.size)
    have hX2 := (World.putObj_heap_other (w := W.alloc (.cells #[.slice (some ⟨G, 0, none⟩) l.length l.length] 53)) (o := .loop { r with state := .busy }) (show W.heap.size ≠ D + 1 by omega)).trans na
    have hC2 := put_owns (o := .loop { r with state := .busy }) (l := D + 1) (crow_below HCR.out ba) (fun e => by have h7 : G = D + 1 := Option.some.inj e; omega)
    have hXs : W.heap.size < ((W.alloc (.cells #[.slice (some ⟨G, 0, none⟩) l.length l.length] 53)).putObj (D + 1) (.loop { r with state := .busy })).heap.size := (Array.getElem?_eq_some_iff.1 hX2).1
    generalize ((W.alloc (.cells #[.slice (some ⟨G, 0, none⟩) l.length l.length] 53)).putObj (D + 1) (.loop { r with state := .busy })) = W2 at hP2 hJ2 hL2 hX2 hC2 hXs ⊢
    have hGX : G < W.heap.size := (HCR.out.lt G rfl).2
    generalize W.heap.size = X at hX2 hXs hGX ⊢
    obtain ⟨hbb, hbx⟩ := HBAG.out _ _ _ _ hJ2
    have hK := keep_any 22 #[.pointer (some ⟨X, 0, none⟩)] (enters_of Try.func22 (by kernel_rfl) rfl) B Z _ p' c' l (ptF l cs) W2.drew hbx hP2.row hln (fun W' hW' i hi => by
      have h := count_cl X G cs l[i] i (by rw [HCL.out]; exact hi) G W' (by rw [HCL.out]; exact (hW'.block X hXs).trans hX2) (by rw [HCL.out]; exact crow_below (W := W2.drew) hC2 hW')
      rw [← ptF_at hl.srt HCL.out i hi] at h
      exact h)
    have HK := hid hK; have HP2 := hid hP2; have HJ2 := hid hJ2; have HL2 := hid hL2; have HC2 := hid hC2
    have y0 : W2.cell? ⟨Z, 0, none⟩ = some (.func (.yield lo) #[] #[]) := cell_box hP2.y2 rfl
    have x0 : W2.cell? ⟨Bb, 0, none⟩ = some (.pointer (some ⟨B, 0, none⟩)) := cell_box hbb rfl
    have z0 : W2.cell? ⟨Y3, 0, none⟩ = some (.slice p' l.length c') := cell_box hP2.y3 rfl
    have hone : ∀ W4 o, Fr (fun b => Z ≤ b ∧ b < G + 1) W4 (W4.putObj (D + 1) o) := fun W4 o => (fr_one (D + 1) o).mono (fun b e => by have := HG.out; exact ⟨by omega, by omega⟩)
    have HL4 : Hid (∀ W3 W4, Below W2.heap.size W2 W3 → (∀ b, Z ≤ b → b < G + 1 → W4.heap[b]? = W3.heap[b]?) → W4.heap[D + 1]? = some (.loop { r with state := .busy }) ∧ PK Z lo Z Y3 D l p' c' W4 ∧ CRow W4 G (some ⟨G, 0, none⟩) l.length cs) := hid fun W3 W4 hb hs => by
      have hg := HG.out
      exact ⟨(hs _ (by omega) (by omega)).trans ((hb.block _ (by omega)).trans hL2), hP2.same (fun b h1 h2 => (hs b h1 (by omega)).trans (hb.block b (by omega))), crow_same hC2 ((hs _ (by omega) (by omega)).trans (hb.block _ (by omega)))⟩
    have HTT : Hid (∀ W3 W4 a', Below W2.heap.size W2 W3 → (∀ b, Z ≤ b → b < G + 1 → W4.heap[b]? = W3.heap[b]?) → k + 1 < M → J (G + 1) (k + 1) (riseO l cs) W4 → rndPost (D + 1) r (fun e W' => (e = .returned (.bool true) ∧ k + 1 < M ∧ (PK Z lo Z Y3 D l p' c' W' ∧ W'.heap[D + 1]? = some (.loop r) ∧ J (G + 1) (k + 1) (riseO l cs) W') ∧ CRow W' G (some ⟨G, 0, none⟩) l.length cs) ∨ (e = .returned (.bool false) ∧ W'.heap[D]? = some (.deferred (some [])) ∧ W'.heap[D + 1]? = some (.loop { r with state := .done, pending := some .ret }) ∧ Jx (G + 1) W')) .normal a' W4) := hid fun W3 W4 a' hb hs hk4 hj4 => by
      obtain ⟨h1, h2, h3⟩ := HL4.out W3 W4 hb hs
      refine ⟨h1, .inl ⟨rfl, hk4, ⟨h2.fr (fr_one (D + 1) _) (fun b e => by omega), ?_, HST.out _ _ _ _ _ hj4 (hone _ _)⟩, put_owns h3 (fun e => by have h7 : G = D + 1 := Option.some.inj e; have := HG.out; omega)⟩⟩
      rw [loop_again hr1 hr2]
      exact World.putObj_heap_same (Array.getElem?_eq_some_iff.1 h1).1
    have HFF : Hid (∀ W3 W4 a', Below W2.heap.size W2 W3 → (∀ b, Z ≤ b → b < G + 1 → W4.heap[b]? = W3.heap[b]?) → Jx (G + 1) W4 → rndPost (D + 1) r (fun e W' => (e = .returned (.bool true) ∧ k + 1 < M ∧ (PK Z lo Z Y3 D l p' c' W' ∧ W'.heap[D + 1]? = some (.loop r) ∧ J (G + 1) (k + 1) (riseO l cs) W') ∧ CRow W' G (some ⟨G, 0, none⟩) l.length cs) ∨ (e = .returned (.bool false) ∧ W'.heap[D]? = some (.deferred (some [])) ∧ W'.heap[D + 1]? = some (.loop { r with state := .done, pending := some .ret }) ∧ Jx (G + 1) W')) .ret a' W4) := hid fun W3 W4 a' hb hs hjx => by
      obtain ⟨h1, h2, h3⟩ := HL4.out W3 W4 hb hs
      exact ⟨h1, .inr ⟨rfl, (World.putObj_heap_other (by omega)).trans h2.df, World.putObj_heap_same (Array.getElem?_eq_some_iff.1 h1).1, HSTX.out _ _ _ hjx (hone _ _)⟩⟩
    clear hone HL4 hg fr12 ba na hK hP2 hJ2 hL2 hC2 hbb hbx hX2 HP HL HJ HCR
    have hd : Below W2.heap.size W2 W2.drew := (Below.refl _ _).drew
    have HGX := hid hGX; have HXS := hid hXs
    clear hGX hXs
    gi_wp2_with fail
    gi_region_with (first
      | (refine ⟨trivial, ?_⟩; gi_at_call 21; refine (CallsIn.inRound _ (callsIn_wide.2 HK.out)).mono ?_; rintro e W3 ⟨Bp, pp, cp, rfl, hA3, hBp3, hb3'⟩; have hb3 : Below W2.heap.size W2 W3 := hd.trans hb3'; have y3 := below_cell hb3 _ _ y0; obtain ⟨fn, tmps, assign, body, hy, hR⟩ := HY.out (m + 5) (G + 1) k cs W3 Bp pp cp (by have := HG.out; omega) hk (HST.out _ _ _ _ _ HJ2.out (Fr.of_below hb3)) HCL.out (bag_mono hA3 (by have := HGX.out; have := HXS.out; show _ ≤ W2.heap.size; omega)) (by have := HGX.out; have := HXS.out; have : W2.heap.size ≤ Bp := hBp3; omega))
      | (refine (round_inRound _ hR).mono ?_; intro e W4 h4; obtain ⟨bv, rfl, hsm, hres⟩ := res_bv h4)
      | fail)
    all_goals
      cases bv
      · rcases hres with ⟨h, _⟩ | ⟨_, hjx⟩
        · cases h
        gi_wp2
        exact HFF.out W3 W4 _ hb3 hsm hjx
      · rcases hres with ⟨_, hk4, hj4⟩ | ⟨h, _⟩
        · have HK4 := hid hk4
          clear hk4
          gi_wp2
          exact HTT.out W3 W4 _ hb3 hsm HK4.out hj4
        · cases h
  · exact ⟨hP0, hL0, HST.out _ _ _ W0 W1 (H0.out _ (by omega)) (Fr.of_below (by rw [hZZ]; exact hB0))⟩
  · rintro e W ⟨⟨v, rfl⟩, (⟨k, hp, hL, hj⟩ | ⟨hdf, hL, hjx⟩)⟩
    · refine ⟨⟨v, rfl⟩, hp.df, .inl ⟨hL, ?_⟩⟩
      have hdf2 : (W.putObj (D + 1) (.loop { r with state := .exhausted })).heap[D]? = some (.deferred (some [])) := (World.putObj_heap_other (by omega)).trans hp.df
      have hj2 := HST.out _ _ _ _ _ hj (((fr_one (W := W) (D + 1) (.loop { r with state := .exhausted })).mono (fun b e => ⟨by omega, by omega⟩)).trans ((fr_one D (.deferred none)).mono (fun b e => ⟨by omega, by omega⟩)))
      generalize W.putObj (D + 1) (.loop { r with state := .exhausted }) = W3 at hdf2 hj2 ⊢
      have hle : Z ≤ W1.heap.size + 1 := by omega
      clear hVs hS0
      gi_wp2
      refine ⟨by simp, .inl ⟨_, _, rfl, run_takeDeferred hdf2, ?_⟩⟩
      exact ⟨_, results_none rfl _ _ _, ⟨_, rfl⟩, W1.heap.size + 1, hle, .inl ⟨k, hj2⟩⟩
    · refine ⟨⟨v, rfl⟩, hdf, .inr ⟨.ret, hL, ?_⟩⟩
      have hdf2 : (W.putObj (D + 1) (.loop { r with state := .exhausted, pending := some .ret })).heap[D]? = some (.deferred (some [])) := (World.putObj_heap_other (by omega)).trans hdf
      have hj2 := HSTX.out _ _ _ hjx (((fr_one (W := W) (D + 1) (.loop { r with state := .exhausted, pending := some .ret })).mono (fun b e => ⟨by omega, by omega⟩)).trans ((fr_one D (.deferred none)).mono (fun b e => ⟨by omega, by omega⟩)))
      generalize W.putObj (D + 1) (.loop { r with state := .exhausted, pending := some .ret }) = W3 at hdf2 hj2 ⊢
      have hle : Z ≤ W1.heap.size + 1 := by omega
      clear hVs hS0
      gi_wp2
      refine ⟨by simp, .inl ⟨_, _, rfl, run_takeDeferred hdf2, ?_⟩⟩
      exact ⟨_, results_none rfl _ _ _, ⟨_, rfl⟩, W1.heap.size + 1, hle, .inr hj2⟩
end Go.Proofs.Ytlbmamkkbpjafab
