import Derived.Deep.RegionHeld3
import Derived.Test.YtgidgmgpgfonnaaGreatKTChk
/- What right of package subst answers of any term by any signature. -/
namespace Go.Proofs.YtgidgmgpgfonnaaGreat
open Go.RowKit Go.Deep Go.Shelf

abbrev RX : Obj := .cells #[.string ⟨#[88]⟩, .int .i64 0, .slice none 0 0] 27
abbrev RZ : Obj := .cells #[.string ⟨#[]⟩, .int .i64 0, .slice none 0 0] 27
def okNd (S : List Sym) (x : ByteArray × Int) (n : Nat) : Bool := nodeErr S x (min n 5) == 0
def rgF (S : List Sym) : Fo → Bool
  | .nil => true
  | .node _ _ x l r => (okNd S x (lenF l) && rgF S l) && rgF S r
def rgT (S : List Sym) (x : ByteArray × Int) (l : Fo) : Bool := okNd S x (lenF l) && rgF S l
theorem errF_xs (S : List Sym) : ∀ k, errF S (xsF k) = 0
  | 0 => rfl
  | k + 1 => by
    rw [xsF, errF, errF_xs S k]
    have : nodeErr S (⟨#[88]⟩, 0) (lenF .nil) = 0 := by
      unfold nodeErr
      rw [if_pos (by decide +kernel)]
      unfold varErr
      rw [if_pos (by refine ⟨by decide +kernel, rfl, rfl⟩)]
    rw [this]
    rfl
theorem chk_xs (S : List Sym) (x : ByteArray × Int) (k : Nat) (hk : k ≤ 5) : chk S x (xsF k) = nodeErr S x k := by
  unfold chk
  rw [xsF_nodes, if_neg (by omega)]
  unfold errT
  rw [xsF_len, errF_xs]
  unfold thenC
  split
  · rename_i h; exact h.symm
  · rfl
theorem bx_below {w w' : World} {B : Nat} {t : TypeId} {v : Value} (h : Boxed w B t v) (hb : Below w.heap.size w w') : Boxed w' B t v := (hb.block B (Array.getElem?_eq_some_iff.1 h).1).trans h
def RgtOk (S : List Sym) (sa : Option Addr) (sn sc : Nat) (k : Nat) : Prop := ∀ (x : ByteArray × Int) (l : Fo) (a : Option Addr) (c : Nat) (w : World), nodesF l < k → SigAt w sa sn S → TmAt w x a c l →
  Calls Tryz.prog 41 #[.slice sa sn sc, .agg #[.string x.1, .int .i64 x.2, .slice a (lenF l) c]] w fun e w' => e = .returned (.bool (rgT S x l)) ∧ Below w.heap.size w w'
set_option maxRecDepth 100000 in
set_option maxHeartbeats 1000000 in
theorem rclo_of {S : List Sym} {sa : Option Addr} {sn sc k : Nat} (hR : RgtOk S sa sn sc k) (x : ByteArray × Int) (l : Fo) (a : Option Addr) (c sb : Nat) (w : World) (hk : nodesF l < k) (hS : SigAt w sa sn S) (hT : TmAt w x a c l) (hB : Boxed w sb 23 (.slice sa sn sc)) :
    Calls Tryz.prog 66 #[.agg #[.string x.1, .int .i64 x.2, .slice a (lenF l) c], .pointer (some ⟨sb, 0, none⟩)] w fun e w' => e = .returned (.bool (!rgT S x l)) ∧ Below w.heap.size w w' := by
  have bx := alloc_below0 w (.cells #[.string x.1, .int .i64 x.2, .slice a (lenF l) c] 27)
  have H := hid (hR x l a c _ hk (hS.below bx) (hT.below bx))
  have X : XBox (w.alloc (.cells #[.string x.1, .int .i64 x.2, .slice a (lenF l) c] 27)) w.heap.size x (.slice a (lenF l) c) := World.alloc_heap_new w _
  have c0 := X.c0; have c1 := X.c1; have c2 := X.c2
  have s0 := (bx_below hB bx).cell
  have HB := hid bx
  clear hR hS hT hB X bx
  go_enter Tryz.func66, Tryz.ntmps66
  go_wp2_with fail
  refine H.out.mono ?_
  rintro e w1 ⟨rfl, hb1⟩
  have HB1 := hid (HB.out.trans (hb1.mono HB.out.size))
  clear hb1 c0 c1 c2 s0
  go_wp2_with fail
  go_ret
  exact ⟨rfl, HB1.out⟩
set_option maxRecDepth 100000 in
set_option maxHeartbeats 1000000 in
theorem ridx_of {S : List Sym} {sa : Option Addr} {sn sc k : Nat} (hR : RgtOk S sa sn sc k) (x : ByteArray × Int) (l : Fo) (a : Option Addr) (c sb : Nat) (w : World) (hk : nodesF l ≤ k) (hS : SigAt w sa sn S) (hT : TmAt w x a c l) (hB : Boxed w sb 23 (.slice sa sn sc)) :
    Calls Tryz.prog 86 #[.slice a (lenF l) c, .func (.func 66) #[] #[.pointer (some ⟨sb, 0, none⟩)]] w fun e w' => ∃ r : Int, e = .returned (.int .i64 r) ∧ (decide (0 ≤ r) = !rgF S l) ∧ Below w.heap.size w w' := by
  have HT := hid hT; have HS := hid hS; have HB := hid hB; have HR := hid hR
  have hln : lenF l ≤ 2932031007402 := by have := hT.sizes.few; omega
  clear hT hS hB hR
  go_enter Tryz.func86, Tryz.ntmps86
  go_wp2
  go_loopw [4, 5, 8] (fun _ _ i wr => ∃ j : Nat, j ≤ lenF l ∧ i = .int .i64 j ∧ Below w.heap.size w wr ∧ rgF S (dropF j l) = rgF S l) (fun _ _ i _ => lenF l - (intOf i).toNat)
  case atStart => exact ⟨0, Nat.zero_le _, rfl, Below.refl _ _, by rw [drop_zero]⟩
  case round =>
    obtain ⟨j, hj, rfl, hb, hm⟩ := hrel
    have HW := hid hb
    by_cases hlt : j < lenF l
    · obtain ⟨b1, o1, rfl, hk1⟩ := HT.out.args.get (by omega)
      obtain ⟨z, a1, c1, l1, kd⟩ := hk1.kid (k := j) hlt
      have kd' := kd.below hb
      obtain ⟨B1, O1', s1⟩ := kd.split
      rw [s1] at hm
      have p0 := kd'.name; have p1 := kd'.sym; have p2 := kd'.list
      have hm' : (rgT S z l1 && rgF S (dropF (j + 1) l)) = rgF S l := hm
      have HM := hid hm'
      have HC := hid (rclo_of HR.out z l1 a1 c1 sb wr (by have := kd.less; omega) (HS.out.below hb) kd'.at_ (bx_below HB.out hb))
      obtain ⟨bv, hbv⟩ : ∃ bv, rgT S z l1 = bv := ⟨_, rfl⟩
      rw [hbv] at HC HM
      clear kd kd' s1 hk1 hm hm' hb hbv
      go_wp2_with fail
      refine HC.out.mono ?_
      rintro e w1 ⟨rfl, hb1⟩
      have HW1 := hid (HW.out.trans (hb1.mono HW.out.size))
      clear hb1 p0 p1 p2 HC
      cases bv
      · go_wp2_with fail
        go_ret
        refine ⟨j, rfl, ?_, HW1.out⟩
        rw [← HM.out]
        simp
      · go_wp2_with fail
        go_roundw
        case rel => exact ⟨j + 1, by omega, by go_num, HW1.out, by rw [← HM.out]; rfl⟩
        case measure => simp [intOf]; omega
    · have e1 : j = lenF l := by omega
      rw [e1, drop_end] at hm
      have HM := hid hm
      clear hm hb
      go_wp2
      go_ret
      exact ⟨-1, rfl, by rw [← HM.out]; rfl, HW.out⟩
set_option maxRecDepth 100000 in
set_option maxHeartbeats 1000000 in
theorem rcont_of {S : List Sym} {sa : Option Addr} {sn sc k : Nat} (hR : RgtOk S sa sn sc k) (x : ByteArray × Int) (l : Fo) (a : Option Addr) (c sb : Nat) (w : World) (hk : nodesF l ≤ k) (hS : SigAt w sa sn S) (hT : TmAt w x a c l) (hB : Boxed w sb 23 (.slice sa sn sc)) :
    Calls Tryz.prog 65 #[.slice a (lenF l) c, .func (.func 66) #[] #[.pointer (some ⟨sb, 0, none⟩)]] w fun e w' => e = .returned (.bool (!rgF S l)) ∧ Below w.heap.size w w' := by
  have H := hid (ridx_of hR x l a c sb w hk hS hT hB)
  clear hR hS hT hB
  go_enter Tryz.func65, Tryz.ntmps65
  go_wp2_with fail
  refine H.out.mono ?_
  rintro e w1 ⟨r, rfl, hr, hb1⟩
  have HB := hid hb1; have HR := hid hr
  clear hb1 hr
  go_wp2_with fail
  go_ret
  exact ⟨by rw [← HR.out]; rfl, HB.out⟩
set_option maxRecDepth 100000 in
set_option maxHeartbeats 4000000 in
theorem right_of {S : List Sym} {sa : Option Addr} {sn sc k : Nat} (hR : RgtOk S sa sn sc k) : RgtOk S sa sn sc (k + 1) := by
  intro x l a c w hk hS hT
  obtain ⟨W0, hW0⟩ : ∃ W0, (w.alloc (.cells #[.slice sa sn sc] 23)).alloc (.cells #[.string x.1, .int .i64 x.2, .slice a (lenF l) c] 27) = W0 := ⟨_, rfl⟩
  have hb0 : Below w.heap.size w W0 := by rw [← hW0]; exact ((Below.refl _ w).alloc (Nat.le_refl _) _).alloc (by simp) _
  have b1 : Boxed W0 w.heap.size 23 (.slice sa sn sc) := by rw [← hW0]; exact (Boxed.new w 23 _).alloc _
  have b2 : XBox W0 (w.heap.size + 1) x (.slice a (lenF l) c) := by
    have := World.alloc_heap_new (w.alloc (.cells #[.slice sa sn sc] 23)) (.cells #[.string x.1, .int .i64 x.2, .slice a (lenF l) c] 27)
    rw [World.size_alloc] at this
    rw [← hW0]; exact this
  have hln : lenF l ≤ 2932031007402 := by have := hT.sizes.few; omega
  have hnm := hT.sizes.name
  have HC := hid fun (W : World) (hW : Below w.heap.size w W) (hB : Boxed W w.heap.size 23 (.slice sa sn sc)) => rcont_of hR x l a c w.heap.size W (by omega) (hS.below hW) (hT.below hW) hB
  have HS := hid hS; have HB0 := hid hb0; have H1 := hid b1; have H2 := hid b2
  have hmax : maxLen = 9223372036854775807 := rfl
  clear hR hS hT
  have c0 := b2.c0; have c1 := b2.c1; have c2 := b2.c2
  have s0 := b1.cell
  clear b1 b2 hb0
  go_enter Tryz.func41, Tryz.ntmps41
  go_upto_region 2 with fail
  clear hW0
  obtain ⟨fw, hfw⟩ : ∃ fw, min (lenF l) 5 = fw := ⟨_, rfl⟩
  have hf5 : fw ≤ 5 := by omega
  have hif : (if (5 : Int) < (lenF l : Int) then 5 else (lenF l : Int)) = (fw : Int) := by split <;> omega
  have hif2 : min (lenF l : Int) 5 = (fw : Int) := by omega
  first
    | rw [hif]
    | rw [hif2]   -- where more of the library is imported, the walk writes it so
  have HF := hid hfw
  clear hif hif2 hfw
  have QA := hid (repeat_any W0.heap.size fw hf5 (World.drew (W0.alloc (.cells #[.string ⟨#[88]⟩, .int .i64 0, .slice none 0 0] 27))) (World.alloc_heap_new W0 _))
  have QB := hid (repeat_any (W0.heap.size + 1) fw hf5 (World.drew ((W0.alloc (.cells #[.string ⟨#[]⟩, .int .i64 0, .slice none 0 0] 27)).alloc (.cells #[.string ⟨#[88]⟩, .int .i64 0, .slice none 0 0] 27))) (by have := World.alloc_heap_new (W0.alloc (.cells #[.string ⟨#[]⟩, .int .i64 0, .slice none 0 0] 27)) (.cells #[.string ⟨#[88]⟩, .int .i64 0, .slice none 0 0] 27); rw [World.size_alloc] at this; exact this))
  have QC := hid (repeat_any W0.heap.size fw hf5 (World.drew ((W0.alloc (.cells #[.string ⟨#[88]⟩, .int .i64 0, .slice none 0 0] 27)).alloc (.cells #[.string ⟨#[]⟩, .int .i64 0, .slice none 0 0] 27))) ((Below.heap_alloc _ _ _ (by simp)).trans (World.alloc_heap_new W0 _)))
  have BA : Hid (Below W0.heap.size W0 (World.drew (W0.alloc (.cells #[.string ⟨#[88]⟩, .int .i64 0, .slice none 0 0] 27)))) := hid ((Below.refl _ W0).alloc (Nat.le_refl _) _).drew
  have BB : Hid (Below W0.heap.size W0 (World.drew ((W0.alloc (.cells #[.string ⟨#[]⟩, .int .i64 0, .slice none 0 0] 27)).alloc (.cells #[.string ⟨#[88]⟩, .int .i64 0, .slice none 0 0] 27)))) := hid (((Below.refl _ W0).alloc (Nat.le_refl _) _).alloc (by simp) _).drew
  have BC : Hid (Below W0.heap.size W0 (World.drew ((W0.alloc (.cells #[.string ⟨#[88]⟩, .int .i64 0, .slice none 0 0] 27)).alloc (.cells #[.string ⟨#[]⟩, .int .i64 0, .slice none 0 0] 27)))) := hid (((Below.refl _ W0).alloc (Nat.le_refl _) _).alloc (by simp) _).drew
  have YB : Hid (XBox (World.drew ((W0.alloc (.cells #[.string ⟨#[]⟩, .int .i64 0, .slice none 0 0] 27)).alloc (.cells #[.string ⟨#[88]⟩, .int .i64 0, .slice none 0 0] 27))) W0.heap.size (⟨#[]⟩, 0) (.slice none 0 0)) := hid ((Below.heap_alloc _ _ _ (by simp)).trans (World.alloc_heap_new W0 _))
  have YC : Hid (XBox (World.drew ((W0.alloc (.cells #[.string ⟨#[88]⟩, .int .i64 0, .slice none 0 0] 27)).alloc (.cells #[.string ⟨#[]⟩, .int .i64 0, .slice none 0 0] 27))) (W0.heap.size + 1) (⟨#[]⟩, 0) (.slice none 0 0)) := hid (by have := World.alloc_heap_new (W0.alloc (.cells #[.string ⟨#[88]⟩, .int .i64 0, .slice none 0 0] 27)) (.cells #[.string ⟨#[]⟩, .int .i64 0, .slice none 0 0] 27); rw [World.size_alloc] at this; exact this)
  go_cut [6] (fun v wc => ∃ B V, v = .pointer (some ⟨B, 0, none⟩) ∧ XBox wc B x (.slice (some ⟨V, 0, none⟩) fw fw) ∧ KidsAt wc (xsF fw) V 0 ∧ Below W0.heap.size W0 wc)
  case first =>
    go_region_held3 (fun w' => w'.cell? ⟨w.heap.size + 1, 0, none⟩ = some (.string x.1) ∧ w'.cell? ⟨w.heap.size + 1, 1, none⟩ = some (.int .i64 x.2)) ((first
      | (go_split_ands; refine ⟨?_, ?_⟩ <;> ((with_reducible refine below_cell B1.out _ _ ?_); assumption))
      | (go_split_ands; refine ⟨?_, ?_⟩ <;> ((with_reducible refine below_cell (B1.out.alloc B1.out.size _) _ _ ?_); assumption))
      | (go_split_ands; refine ⟨?_, ?_⟩ <;> ((with_reducible refine below_cell (sets_below B1.out (Nat.le_refl _) _ _ _) _ _ ?_); assumption))
      | (go_split_ands; refine ⟨?_, ?_⟩ <;> ((with_reducible refine below_cell (sets_below B1.out (Nat.le_succ _) _ _ _) _ _ ?_); assumption))
      | (go_split_ands; refine ⟨?_, ?_⟩ <;> ((with_reducible refine below_cell (sets_below (B1.out.alloc B1.out.size _) B1.out.size _ _ _) _ _ ?_); assumption))
      | go_keep | fail)) ((first
      | (go_at_call 63; (with_reducible refine Calls.mono QA.out ?_); rintro e w1 ⟨V, rfl, hk1, hV1, hv1, hb1⟩; have HV := hid hV1; have hvl := hid hv1; have B1 := hid (BA.out.trans (hb1.mono BA.out.size)); have K1 := hid hk1; have d0 := below_cell B1.out _ _ c0; have d1 := below_cell B1.out _ _ c1; have Y1 : XBox (w1.alloc (.cells #[.string ⟨#[]⟩, .int .i64 0, .slice none 0 0] 27)) w1.heap.size (⟨#[]⟩, 0) (.slice none 0 0) := World.alloc_heap_new w1 _; have r0 := Y1.c0; have r1 := Y1.c1; have r2 := Y1.c2; have g0 := Y1.f (k := 0); have g1 := Y1.f (k := 1); have g2 := Y1.f (k := 2); have d3 := below_cell (alloc_below0 w1 (.cells #[.string ⟨#[]⟩, .int .i64 0, .slice none 0 0] 27)) _ _ d0; have d4 := below_cell (alloc_below0 w1 (.cells #[.string ⟨#[]⟩, .int .i64 0, .slice none 0 0] 27)) _ _ d1; have HY := hid Y1; clear hk1 hV1 hv1 hb1 Y1)
      | (go_at_call 63; (with_reducible refine Calls.mono QB.out ?_); rintro e w1 ⟨V, rfl, hk1, hV1, hv1, hb1⟩; have HV := hid hV1; have hvl := hid hv1; have B1 := hid (BB.out.trans (hb1.mono BB.out.size)); have K1 := hid hk1; have d0 := below_cell B1.out _ _ c0; have d1 := below_cell B1.out _ _ c1; have Y1 := YB.out.below hb1; have r0 := Y1.c0; have r1 := Y1.c1; have r2 := Y1.c2; have g0 := Y1.f (k := 0); have g1 := Y1.f (k := 1); have g2 := Y1.f (k := 2); have HY := hid Y1; clear hk1 hV1 hv1 hb1 Y1)
      | (go_at_call 63; (with_reducible refine Calls.mono QC.out ?_); rintro e w1 ⟨V, rfl, hk1, hV1, hv1, hb1⟩; have HV := hid hV1; have hvl := hid hv1; have B1 := hid (BC.out.trans (hb1.mono BC.out.size)); have K1 := hid hk1; have d0 := below_cell B1.out _ _ c0; have d1 := below_cell B1.out _ _ c1; have Y1 := YC.out.below hb1; have r0 := Y1.c0; have r1 := Y1.c1; have r2 := Y1.c2; have g0 := Y1.f (k := 0); have g1 := Y1.f (k := 1); have g2 := Y1.f (k := 2); have HY := hid Y1; clear hk1 hV1 hv1 hb1 Y1)
      | fail))
    all_goals
      go_wp2_with fail
      go_meet
      first
        | ((with_reducible refine ⟨w1.heap.size, V, rfl, ?_, ?_, ?_⟩); exact World.alloc_heap_new w1 _; exact xsF_far (Below.heap_alloc _ _ _ hvl.out) _ _ K1.out; exact B1.out.alloc B1.out.size _)
        | ((with_reducible refine ⟨W0.heap.size, V, rfl, ?_, ?_, ?_⟩); exact HY.out.all (x := x) _; exact xsF_far (sets_far (by have := HV.out; simp at this; omega) _ _ _) _ _ K1.out; exact sets_below B1.out (Nat.le_refl _) _ _ _)
        | ((with_reducible refine ⟨W0.heap.size + 1, V, rfl, ?_, ?_, ?_⟩); exact HY.out.all (x := x) _; exact xsF_far (sets_far (by have := HV.out; simp at this; omega) _ _ _) _ _ K1.out; exact sets_below B1.out (Nat.le_succ _) _ _ _)
  case rest =>
    obtain ⟨B, V, rfl, hX, hK, hB⟩ := hcut
    clear QA QB QC BA BB BC YB YC c0 c1 c2 s0
    have hW := HB0.out.trans (hB.mono HB0.out.size)
    have b1 := bx_below H1.out hB
    have hT : TmAt wc x (some ⟨V, 0, none⟩) fw (xsF fw) := ⟨⟨hnm, by rw [xsF_len]; exact Nat.le_refl _, by omega, by rw [xsF_len]; omega⟩, .inr ⟨V, 0, rfl, hK⟩⟩
    have hC := check_any S sa sn sc x (xsF fw) (some ⟨V, 0, none⟩) fw wc (HS.out.below hW) hT
    rw [xsF_len, chk_xs S x fw hf5] at hC
    have HCH := hid hC; have HW := hid hW; have HB1 := hid b1; have HX2 := hid (H2.out.below hB)
    have s0 := b1.cell; have x0 := hX.c0; have x1 := hX.c1; have x2 := hX.c2
    clear hX hK hB hW b1 hT hC
    go_wp2_with fail
    refine HCH.out.mono ?_
    rintro e w2 ⟨rfl, hb2⟩
    have HW2 := hid (HW.out.trans (hb2.mono HW.out.size)); have HB2 := hid (bx_below HB1.out hb2); have X2 := HX2.out.below hb2
    have c2 := X2.c2
    have hE : okNd S x (lenF l) = (nodeErr S x fw == 0) := by unfold okNd; rw [HF.out]
    have HE := hid hE
    clear hb2 s0 x0 x1 x2 HCH X2 hE
    by_cases h0 : nodeErr S x fw = 0
    · have HG : Hid (rgT S x l = rgF S l) := hid (by unfold rgT; rw [HE.out, h0]; simp)
      rw [h0]
      go_wp2_with fail
      refine (HC.out w2 HW2.out HB2.out).mono ?_
      rintro e w3 ⟨rfl, hb3⟩
      have HW3 := hid (HW2.out.trans (hb3.mono HW2.out.size))
      clear hb3 c2
      go_wp2_with fail
      go_ret
      exact ⟨by rw [HG.out]; simp, HW3.out⟩
    · have HG : Hid (rgT S x l = false) := hid (by unfold rgT; rw [HE.out]; simp [h0])
      have hne : (nodeErr S x fw != 0) = true := by simpa using h0
      clear c2
      go_wp2_with fail
      go_ret
      exact ⟨by rw [HG.out]; rfl, HW2.out⟩
theorem right_all (S : List Sym) (sa : Option Addr) (sn sc : Nat) : ∀ k, RgtOk S sa sn sc k
  | 0 => fun x l a c w hk => absurd hk (by omega)
  | k + 1 => right_of (right_all S sa sn sc k)
end Go.Proofs.YtgidgmgpgfonnaaGreat
