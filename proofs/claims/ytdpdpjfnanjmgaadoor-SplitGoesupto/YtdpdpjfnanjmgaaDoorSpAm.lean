/- SplitAdds' walk. -/
import Derived.Test.YtdpdpjfnanjmgaaDoorSpAl
import Derived.Test.YtdpdpjfnanjmgaaDoorSpAa
import Derived.Deep.CutBlock
namespace Go.Proofs.YtdpdpjfnanjmgaaDoor
open Go.RowKit Go.Shelf

attribute [local go_sem] Oper.semAt_some
theorem nil28 (x : Array Value) (w : World) : (binOp .eql 33 (.func (.func 28) #[] x) .nilFunc).run Tryd.prog w = .ok (.bool false) w := by kernel_rfl
theorem below_drawn {w W : World} {n : Nat} (h : Below n w W) : ∀ q, Below n w (W.drewN q)
  | 0 => h
  | q + 1 => (below_drawn h q).drew
theorem load_bool {W : World} {a : Addr} {v : Bool} (h : W.cell? a = some (.bool v)) : (loadVar 4 a).run Tryd.prog W = .ok (.bool v) W := by
  simp [go_sem, loadVar, h]
set_option maxRecDepth 100000 in
set_option maxHeartbeats 8000000 in
theorem adds_bad (a b : Option Addr) (c d : Nat) (m k : List Int) (e : Bool) (most : Nat) (w : World) (hM : IntsAt w a m) (hK : IntsAt w b k) (hTab : Tab w) (h : chkE m k ≠ 0) :
    Calls Tryd.prog 5 #[.agg #[.slice a m.length c, .slice b k.length d, .bool e], .int .u8 (most : Int)] w fun en w' => en = .returned (.bool true) ∧ Below w.heap.size w w' := by
  obtain ⟨W1, hW1⟩ : ∃ W1, ((w.alloc (.cells #[.slice a m.length c, .slice b k.length d, .bool e] 29)).alloc (.cells #[.int .u8 (most : Int)] 5)).alloc (.cells #[.bool false] 4) = W1 := ⟨_, rfl⟩
  have b1 := alloc_below0 w (.cells #[.slice a m.length c, .slice b k.length d, .bool e] 29)
  have b2 := alloc_below0 (w.alloc (.cells #[.slice a m.length c, .slice b k.length d, .bool e] 29)) (.cells #[.int .u8 (most : Int)] 5)
  have b3 := alloc_below0 ((w.alloc (.cells #[.slice a m.length c, .slice b k.length d, .bool e] 29)).alloc (.cells #[.int .u8 (most : Int)] 5)) (.cells #[.bool false] 4)
  have hb : Below w.heap.size w W1 := by rw [← hW1]; exact b1.trans ((b2.mono (by simp)).trans (b3.mono (by simp; omega)))
  have hx : W1.heap[w.heap.size]? = some (.cells #[.slice a m.length c, .slice b k.length d, .bool e] 29 (0, 0)) := by
    rw [← hW1]
    exact (b3.block _ (by simp; omega)).trans ((b2.block _ (by simp)).trans (World.alloc_heap_new w _))
  have hr : W1.heap[w.heap.size + 2]? = some (.cells #[.bool false] 4 (0, 0)) := by
    have h9 := World.alloc_heap_new ((w.alloc (.cells #[.slice a m.length c, .slice b k.length d, .bool e] 29)).alloc (.cells #[.int .u8 (most : Int)] 5)) (.cells #[.bool false] 4)
    rw [World.size_alloc, World.size_alloc, hW1] at h9
    exact h9
  have HL := hid (lives_any W1 (hTab.below hb))
  have HB := hid hb; have HX := hid hx; have HR := hid hr; have HTab := hid hTab; have HM := hid hM; have HK := hid hK
  have hne : (chkE m k != 0) = true := by simpa using h
  obtain ⟨ck, hck⟩ : ∃ ck, chkE m k = ck := ⟨_, rfl⟩
  have HC := hid hck
  rw [hck] at hne
  clear b1 b2 b3 hb hx hr hM hK hTab h hck
  refine (callsIn_wide (n := 12)).1 ?_
  refine callsIn_of_wp_marks Tryd.func5 rfl trivial (wpIn_wide.2 ?_) rfl
  simp only [Tryd.ntmps5, List.size_toArray, List.length_cons, List.length_nil, Nat.reduceAdd, Nat.reduceSub, Array.replicate_succ, Array.replicate_zero, List.push_toArray, List.append_toArray, List.nil_append, List.cons_append]
  go_wp2_with fail
  refine HL.out.mono ?_
  rintro en w2 ⟨rfl, hb2⟩
  have hx2 := (hb2.block _ (Array.getElem?_eq_some_iff.1 HX.out).1).trans HX.out
  have hr2 := (hb2.block _ (Array.getElem?_eq_some_iff.1 HR.out).1).trans HR.out
  have hc0 : w2.cell? ⟨w.heap.size, 0, none⟩ = some (.slice a m.length c) := cell_box hx2 rfl
  have hc1 : w2.cell? ⟨w.heap.size, 1, none⟩ = some (.slice b k.length d) := cell_box hx2 rfl
  have hc2 : w2.cell? ⟨w.heap.size + 2, 0, none⟩ = some (.bool false) := cell_box hr2 rfl
  have hfz : w2.frozen? ⟨w.heap.size + 2, 0, none⟩ = false := by simp [World.frozen?, hr2]
  have HB2 := hid (HB.out.trans (hb2.mono HB.out.size))
  have HRC := hid (rchk_any a b c d m k w2 (HM.out.below HB2.out) (HK.out.below HB2.out))
  rw [HC.out] at HRC
  clear hb2 hx2 hr2 hW1
  go_wp2_with fail
  refine HRC.out.mono ?_
  rintro en w3 ⟨rfl, rfl⟩
  go_wp2_with fail
  refine ⟨_, results_c1 rfl rfl (load_bool (v := true) (World.cell?_setCell_same _ _ _ hc2)), rfl, HB2.out.setCell (p := ⟨w.heap.size + 1 + 1, 0, none⟩) (by show w.heap.size ≤ w.heap.size + 1 + 1; omega) _⟩
/-- The walk over the ways. -/
structure AdK (m k : List Nat) (e : Bool) (most : Nat) (Ws : World) (lim L N lp : Nat) (r : Loop) (i : Nat) (M : Nat → Prop) (W : World) : Prop where
  ak : AK Ws lim (fun b => b = L ∨ b = N ∨ b = lp) M W
  cnt : W.heap[N]? = some (.cells #[.int .i64 (i : Int)] 3 (0, 0))
  last : i = 0 ∧ W.heap[L]? = some (.cells #[.slice none 0 0] 36 (0, 0)) ∨ ∃ g v, 0 < i ∧ (waysF m k e)[i - 1]? = some v ∧ W.heap[L]? = some (.cells #[.slice (some ⟨g, 0, none⟩) k.length k.length] 36 (0, 0)) ∧ LstW lim m.length k.length g (rowsN m.length k.length v) M W
  lp : W.heap[lp]? = some (.loop r)
  le : i ≤ 20 + most
set_option maxRecDepth 100000 in
set_option maxHeartbeats 8000000 in
theorem adds_fine (a b : Option Addr) (c d : Nat) (m k : List Nat) (e : Bool) (most : Nat) (w : World) (hM : IntsAt w a (up m)) (hK : IntsAt w b (up k)) (hTab : Tab w) (hF : Fine m k) (ha : a = none → c = 0) (hmost : most < 256) :
    Calls Tryd.prog 5 #[.agg #[.slice a m.length c, .slice b k.length d, .bool e], .int .u8 (most : Int)] w fun en w' => en = .returned (.bool true) ∧ Below w.heap.size w w' := by
  obtain ⟨W1, hW1⟩ : ∃ W1, ((w.alloc (.cells #[.slice a m.length c, .slice b k.length d, .bool e] 29)).alloc (.cells #[.int .u8 (most : Int)] 5)).alloc (.cells #[.bool false] 4) = W1 := ⟨_, rfl⟩
  have b1 := alloc_below0 w (.cells #[.slice a m.length c, .slice b k.length d, .bool e] 29)
  have b2 := alloc_below0 (w.alloc (.cells #[.slice a m.length c, .slice b k.length d, .bool e] 29)) (.cells #[.int .u8 (most : Int)] 5)
  have b3 := alloc_below0 ((w.alloc (.cells #[.slice a m.length c, .slice b k.length d, .bool e] 29)).alloc (.cells #[.int .u8 (most : Int)] 5)) (.cells #[.bool false] 4)
  have hb : Below w.heap.size w W1 := by rw [← hW1]; exact b1.trans ((b2.mono (by simp)).trans (b3.mono (by simp; omega)))
  have hx : W1.heap[w.heap.size]? = some (.cells #[.slice a m.length c, .slice b k.length d, .bool e] 29 (0, 0)) := by
    rw [← hW1]
    exact (b3.block _ (by simp; omega)).trans ((b2.block _ (by simp)).trans (World.alloc_heap_new w _))
  have hq : W1.heap[w.heap.size + 1]? = some (.cells #[.int .u8 (most : Int)] 5 (0, 0)) := by
    have h9 := World.alloc_heap_new (w.alloc (.cells #[.slice a m.length c, .slice b k.length d, .bool e] 29)) (.cells #[.int .u8 (most : Int)] 5)
    rw [World.size_alloc] at h9
    rw [← hW1]
    exact (b3.block _ (by simp)).trans h9
  have hr : W1.heap[w.heap.size + 2]? = some (.cells #[.bool false] 4 (0, 0)) := by
    have h9 := World.alloc_heap_new ((w.alloc (.cells #[.slice a m.length c, .slice b k.length d, .bool e] 29)).alloc (.cells #[.int .u8 (most : Int)] 5)) (.cells #[.bool false] 4)
    rw [World.size_alloc, World.size_alloc, hW1] at h9
    exact h9
  have hs1 : W1.heap.size = w.heap.size + 3 := by rw [← hW1, World.size_alloc, World.size_alloc, World.size_alloc]
  have HL := hid (lives_any W1 (hTab.below hb))
  have HB := hid hb; have HX := hid hx; have HQ := hid hq; have HR := hid hr; have HTAB := hid hTab; have HM := hid hM; have HK := hid hK; have HF := hid hF; have HA := hid ha; have HS1 := hid hs1
  clear b1 b2 b3 hb hx hq hr hM hK hTab hF ha hs1
  refine (callsIn_wide (n := 12)).1 ?_
  refine callsIn_of_wp_marks Tryd.func5 rfl trivial (wpIn_wide.2 ?_) rfl
  simp only [Tryd.ntmps5, List.size_toArray, List.length_cons, List.length_nil, Nat.reduceAdd, Nat.reduceSub, Array.replicate_succ, Array.replicate_zero, List.push_toArray, List.append_toArray, List.nil_append, List.cons_append]
  go_wp2_with fail
  refine HL.out.mono ?_
  rintro en w2 ⟨rfl, hb2⟩
  have hx2 := (hb2.block _ (Array.getElem?_eq_some_iff.1 HX.out).1).trans HX.out
  have hq2 := (hb2.block _ (Array.getElem?_eq_some_iff.1 HQ.out).1).trans HQ.out
  have hr2 := (hb2.block _ (Array.getElem?_eq_some_iff.1 HR.out).1).trans HR.out
  have hc0 : w2.cell? ⟨w.heap.size, 0, none⟩ = some (.slice a m.length c) := cell_box hx2 rfl
  have hc1 : w2.cell? ⟨w.heap.size, 1, none⟩ = some (.slice b k.length d) := cell_box hx2 rfl
  have hc2 : w2.cell? ⟨w.heap.size, 2, none⟩ = some (.bool e) := cell_box hx2 rfl
  have HB2 := hid (HB.out.trans (hb2.mono HB.out.size))
  have HS2 : Hid (w.heap.size + 3 ≤ w2.heap.size) := hid (by have := HS1.out; have := hb2.size; omega)
  have HX2 := hid hx2; have HQ2 := hid hq2; have HR2 := hid hr2
  have hrc := rchk_any a b c d (up m) (up k) w2 (HM.out.below HB2.out) (HK.out.below HB2.out)
  rw [fine_chk HF.out, up_len, up_len] at hrc
  have HRC := hid hrc
  have HAL := hid (all_any a b c d m k e w2 (HM.out.below HB2.out) (HK.out.below HB2.out) HF.out HA.out)
  clear hb2 hx2 hq2 hr2 hW1 hrc
  go_wp2_with fail
  refine HRC.out.mono ?_
  rintro en w3 ⟨rfl, rfl⟩
  go_wp2_with fail
  refine HAL.out.mono ?_
  rintro en w4 ⟨X, Fb, p4, c4, f, rfl, hX4, hF4, hD4, hSv, hcr, hf4, hb4⟩
  have hs4 := hb4.size
  have HD4 := hid hD4; have HSV := hid hSv; have HCR := hid hcr; have HF4 := hid hf4; have HB4 := hid hb4; have HX4 := hid hX4
  have hX5 : w4.heap[w.heap.size]? = some (.cells #[.slice a m.length c, .slice b k.length d, .bool e] 29 (0, 0)) := (hb4.block _ (by have := HS2.out; omega)).trans HX2.out
  have hQ5 : w4.heap[w.heap.size + 1]? = some (.cells #[.int .u8 (most : Int)] 5 (0, 0)) := (hb4.block _ (by have := HS2.out; omega)).trans HQ2.out
  have hR5 : w4.heap[w.heap.size + 2]? = some (.cells #[.bool false] 4 (0, 0)) := (hb4.block _ (by have := HS2.out; omega)).trans HR2.out
  obtain ⟨W5, hW5⟩ : ∃ W5, ((w4.alloc (.cells #[.slice none 0 0] 36)).alloc (.cells #[.int .i64 0] 3)).setCell ⟨w4.heap.size + 1, 0, none⟩ (.int .i64 0) = W5 := ⟨_, rfl⟩
  have b1 := alloc_below0 w4 (.cells #[.slice none 0 0] 36)
  have b2 := alloc_below0 (w4.alloc (.cells #[.slice none 0 0] 36)) (.cells #[.int .i64 0] 3)
  have b3 : Below w4.heap.size w4 ((w4.alloc (.cells #[.slice none 0 0] 36)).alloc (.cells #[.int .i64 0] 3)) := b1.trans (b2.mono (by simp))
  have hb5 : Below w4.heap.size w4 W5 := by
    rw [← hW5]
    exact b3.setCell (p := ⟨w4.heap.size + 1, 0, none⟩) (by show w4.heap.size ≤ w4.heap.size + 1; omega) _
  have hl5 : W5.heap[w4.heap.size]? = some (.cells #[.slice none 0 0] 36 (0, 0)) := by
    rw [← hW5]
    exact (set_far (by omega) _).trans ((b2.block _ (by simp)).trans (World.alloc_heap_new w4 _))
  have hn5 : W5.heap[w4.heap.size + 1]? = some (.cells #[.int .i64 0] 3 (0, 0)) := by
    have h9 := World.alloc_heap_new (w4.alloc (.cells #[.slice none 0 0] 36)) (.cells #[.int .i64 0] 3)
    rw [World.size_alloc] at h9
    rw [← hW5]
    exact block_set h9 _
  have hs5 : W5.heap.size = w4.heap.size + 2 := by rw [← hW5, show ∀ (W : World) a v, (W.setCell a v).heap.size = W.heap.size from fun W a v => by simp [World.setCell], World.size_alloc, World.size_alloc]
  have HX5 := hid hX5; have HQ5 := hid hQ5; have HR5 := hid hR5; have HB5 := hid hb5; have HL5 := hid hl5; have HN5 := hid hn5; have HS5 := hid hs5; have HS4 := hid hs4
  clear hD4 hSv hcr hf4 hb4 hX4 hF4 hs4 hX5 hQ5 hR5 b1 b2 b3 hb5 hl5 hn5 hs5 HL HRC HAL hc0 hc1 hc2
  have hnil := nil28 #[.pointer (some ⟨X, 0, none⟩), .pointer (some ⟨Fb, 0, none⟩)] w4
  go_upto_block 0 with (fail)
  clear hW5
  refine (wpIn_wide (n := 12)).1 ?_
  gi_wp2_with fail
  refine range_law rfl (by omega) (gf := 28) (lb := #[.pointer (some ⟨X, 0, none⟩), .pointer (some ⟨Fb, 0, none⟩)]) rfl trivial (enters_of Tryd.func28 (by kernel_rfl) rfl) ?_
  intro r hr1 hr2 hr3 hr4 hr5 hr6 hr7
  rw [HS5.out]
  obtain ⟨L, hL⟩ : ∃ L, w4.heap.size = L := ⟨_, rfl⟩
  have HLL := hid hL
  rw [hL] at HB5 HL5 HN5 HS5 HS4 hr3 ⊢
  clear hL
  obtain ⟨Ws, hWs⟩ : ∃ Ws, (W5.alloc (.deferred (some []))).alloc (.loop r) = Ws := ⟨_, rfl⟩
  have b1 := alloc_below0 W5 (.deferred (some []))
  have b2 := alloc_below0 (W5.alloc (.deferred (some []))) (.loop r)
  have s1 : (W5.alloc (.deferred (some []))).heap.size = L + 3 := by rw [World.size_alloc, HS5.out]
  have hbs : Below W5.heap.size W5 Ws := by rw [← hWs]; exact b1.trans (b2.mono (by rw [World.size_alloc]; omega))
  have hss : Ws.heap.size = L + 4 := by rw [← hWs, World.size_alloc, s1]
  have hdf : Ws.heap[L + 2]? = some (.deferred (some [])) := by
    rw [← hWs]
    have h9 := World.alloc_heap_new W5 (.deferred (some []))
    rw [HS5.out] at h9
    exact (b2.block _ (by omega)).trans h9
  have hlp : Ws.heap[L + 2 + 1]? = some (.loop r) := by
    have h1 := World.alloc_heap_new (W5.alloc (.deferred (some []))) (.loop r)
    rw [s1] at h1
    rw [← hWs]
    exact h1
  rw [hWs]
  have HDF := hid hdf; have HLP := hid hlp; have HSS := hid hss; have HBS := hid hbs
  have HLB : Hid (w.heap.size + 3 ≤ L) := hid (by have := HS2.out; have := HS4.out; omega)
  have HXL : Hid (w.heap.size + 3 ≤ X ∧ X < L) := hid ⟨by have := HX4.out; have := HS2.out; omega, by rw [← HLL.out]; exact HD4.out.lt⟩
  have HPK : Hid (∀ g o, p4 = some ⟨g, o, none⟩ → w.heap.size + 3 ≤ g ∧ g < L) := hid fun g o e => by
    rcases HCR.out.2 with ⟨h1, _⟩ | ⟨g', cap, cur, h1, h2, h3, _⟩
    · rw [e] at h1; cases h1
    · rw [e] at h1
      cases h1
      have := HS2.out
      exact ⟨by omega, by rw [← HLL.out]; exact (Array.getElem?_eq_some_iff.1 h3).1⟩
  clear b1 b2 s1 hbs hss hdf hlp hWs
  have HSM : Hid (∀ i M W, AdK m k e most Ws (L + 4) L (L + 1) (L + 2 + 1) r i M W → ∀ b, b < L → W.heap[b]? = w4.heap[b]?) := hid fun i M W h b hb => (h.ak.blk (by rw [HSS.out]; omega) (by omega) (by omega)).trans ((HBS.out.block _ (by rw [HS5.out]; omega)).trans (HB5.out.block _ hb))
  have HMW : Hid (IntsAt w4 a (up m)) := hid ((HM.out.below HB2.out).below HB4.out)
  have HKW : Hid (IntsAt w4 b (up k)) := hid ((HK.out.below HB2.out).below HB4.out)
  have HTW : Hid (Tab w4) := hid ((HTAB.out.below HB2.out).below HB4.out)
  refine (all_in 7 (L + 2 + 1) X Fb m.length k.length c4 p4 k f ⟨[], m, needN e k⟩ (AdK m k e most Ws (L + 4) L (L + 1) (L + 2 + 1) r) (fun W => Fr (fun b => (b = L ∨ b = L + 1 ∨ b = L + 2 + 1) ∨ L + 4 ≤ b) Ws W ∧ W.heap[L + 2 + 1]? = some (.loop { r with state := .done, pending := some (.exit 0) })) Ws rfl HF.out.often HF.out.few HF.out.takers HSV.out (dl_ok e HF.out) rfl ?_ ?_ ?_ ?_ ?_).mono ?_
  · exact (HBS.out.block _ (by rw [HS5.out]; have := (Array.getElem?_eq_some_iff.1 HF4.out).1; have := HLL.out; omega)).trans ((HB5.out.block _ (by have := (Array.getElem?_eq_some_iff.1 HF4.out).1; have := HLL.out; omega)).trans HF4.out)
  · rintro i M M' W W' hj hf hm
    have hk : ∀ q, q < L + 4 → q < W.heap.size → W'.heap[q]? = W.heap[q]? := fun q hq hq' => hf.same q hq' fun h => by have := hj.ak.mm _ h; omega
    have hz := hj.ak.sz
    refine ⟨hj.ak.go hf hm, (hk _ (by omega) (by omega)).trans hj.cnt, ?_, (hk _ (by omega) (by omega)).trans hj.lp, hj.le⟩
    rcases hj.last with ⟨h1, h2⟩ | ⟨g, v, h1, h2, h3, h4⟩
    · exact .inl ⟨h1, (hk _ (by omega) (by omega)).trans h2⟩
    · exact .inr ⟨g, v, h1, h2, (hk _ (by omega) (by omega)).trans h3, h4.go hf hm⟩
  · rintro i M W hj
    have hx := HXL.out
    have hw := HLB.out
    refine ⟨HD4.out.same (HSM.out i M W hj X hx.2), (HCR.out.same fun b hb hb' => HSM.out i M W hj b (by rw [← HLL.out]; exact hb')).ints, fun q hq => (cell_same (HSM.out i M W hj 0 (by omega))).trans (HTW.out q hq), fun h => ?_, fun h => ?_, fun a o e h => ?_⟩
    · have := hj.ak.mm _ h; omega
    · have := hj.ak.mm _ h; omega
    · have := hj.ak.mm _ h; have := HPK.out a o e; omega
  · rintro mm i M W v g bs hv hj hM hbs1 hbs2 hway
    rw [wd_all m k e] at hv
    have hvm : v ∈ waysF m k e := by
      obtain ⟨h1, h2⟩ := List.getElem?_eq_some_iff.1 hv
      rw [← h2]; exact List.getElem_mem _
    have hk1 : ∀ x ∈ k, 1 ≤ x := fun x hx => (HF.out.often x hx).1
    have hvl := way_len hk1 hvm
    have HV := hid hv; have HVM := hid hvm; have HVL := hid hvl; have HMM := hid hM; have HB1 := hid hbs1; have HB2' := hid hbs2; have HWY := hid hway; have HJ := hid hj; have HK1 := hid hk1
    have hT5 := HF.out.takers
    have hK5 := HF.out.few
    refine yield_by hr5 hr6 hr3 hr4 hj.lp hr1 rfl hr7 ?_
    clear hv hvm hvl hM hbs1 hbs2 hway hj hk1 hr3 hr4 hr5 hr6
    simp only [List.zip_toArray, List.zip_cons_cons, List.zip_nil_right, List.foldl_toArray, List.foldl_cons, List.foldl_nil, List.setIfInBounds_toArray, List.set_cons_succ, List.set_cons_zero]
    gi_wp2_with fail
    refine ⟨HJ.out.lp, ?_⟩
    have hltl : L + 2 + 1 < W.heap.size := (Array.getElem?_eq_some_iff.1 HJ.out.lp).1
    have hbL : L + 4 ≤ bs := by have := HSS.out; have := HB2'.out; omega
    obtain ⟨W2, hW2⟩ : ∃ W2, W.putObj (L + 2 + 1) (.loop { r with state := .busy }) = W2 := ⟨_, rfl⟩
    have hF2 : Fr (fun b => b = L + 2 + 1) W W2 := by rw [← hW2]; exact fr_one _ _
    have hL2 : W2.heap[L + 2 + 1]? = some (.loop { r with state := .busy }) := by rw [← hW2]; exact World.putObj_heap_same hltl
    have hWy2 : WayAt W2 bs g m.length k.length (rowsN m.length k.length v) := HWY.out.same fun b hb hb' => hF2.same b hb' (by omega)
    have hsm2 : ∀ b, b < L → W2.heap[b]? = w4.heap[b]? := fun b hb => (hF2.same b (by omega) (by omega)).trans (HSM.out i M W HJ.out b hb)
    have hx2 : W2.heap[w.heap.size]? = some (.cells #[.slice a m.length c, .slice b k.length d, .bool e] 29 (0, 0)) := (hsm2 _ (by have := HLB.out; omega)).trans HX5.out
    have hq2 : W2.heap[w.heap.size + 1]? = some (.cells #[.int .u8 (most : Int)] 5 (0, 0)) := (hsm2 _ (by have := HLB.out; omega)).trans HQ5.out
    have hn2 : W2.heap[L + 1]? = some (.cells #[.int .i64 (i : Int)] 3 (0, 0)) := (hF2.same _ (by omega) (by omega)).trans HJ.out.cnt
    have hmi : IntsAt W2 a (up m) := ⟨HMW.out.small, fun q hq => by
      obtain ⟨b, o, h1, h2⟩ := HMW.out.cells q hq
      exact ⟨b, o, h1, (cell_same (hsm2 b (by rw [← HLL.out]; exact World.block_lt_of_cell? w4 _ h2))).trans h2⟩⟩
    have hki : IntsAt W2 b (up k) := ⟨HKW.out.small, fun q hq => by
      obtain ⟨b, o, h1, h2⟩ := HKW.out.cells q hq
      exact ⟨b, o, h1, (cell_same (hsm2 b (by rw [← HLL.out]; exact World.block_lt_of_cell? w4 _ h2))).trans h2⟩⟩
    rw [hW2]
    have HF2 := hid hF2; have HL2 := hid hL2; have HWY2 := hid hWy2; have HX2' := hid hx2; have HQ2' := hid hq2; have HN2 := hid hn2; have HMI := hid hmi; have HKI := hid hki; have HBL := hid hbL
    have hc1 : W2.cell? ⟨w.heap.size, 1, none⟩ = some (.slice b k.length d) := cell_box hx2 rfl
    clear hltl hF2 hL2 hWy2 hW2 hx2 hq2 hn2 hmi hki hbL hsm2
    gi_wp2_with fail
    clear hc1
    gi_loopw [10, 11, 12] (fun jv _ _ wr => ∃ j : Nat, j ≤ m.length ∧ jv = .int .i64 (j : Int) ∧ Below W2.heap.size W2 wr) (fun jv _ _ _ => m.length - (intOf jv).toNat)
    case atStart => exact ⟨0, Nat.zero_le _, rfl, Below.refl _ _⟩
    case round =>
      obtain ⟨j, hj, rfl, hbr⟩ := hrel
      have hc0 : wr.cell? ⟨w.heap.size, 0, none⟩ = some (.slice a m.length c) := below_cell hbr _ _ (cell_box HX2'.out rfl)
      by_cases hlt : j < m.length
      · have HBR := hid hbr
        clear hbr
        gi_wp2_with fail
        gi_loopw [11, 12] (fun sv iv wq => ∃ q : Nat, q ≤ k.length ∧ iv = .int .i64 (q : Int) ∧ sv = .int .i64 ((sumTo m.length j k v q : Nat) : Int) ∧ Below W2.heap.size W2 wq) (fun _ iv _ => k.length - (intOf iv).toNat)
        case atStart => exact ⟨0, Nat.zero_le _, rfl, rfl, HBR.out⟩
        case round =>
          obtain ⟨q, hq, rfl, rfl, hbr⟩ := hrel
          by_cases hlq : q < k.length
          · have hc0 : wr.cell? ⟨w.heap.size, 0, none⟩ = some (.slice a m.length c) := below_cell hbr _ _ (cell_box HX2'.out rfl)
            have hc1 : wr.cell? ⟨w.heap.size, 1, none⟩ = some (.slice b k.length d) := below_cell hbr _ _ (cell_box HX2'.out rfl)
            obtain ⟨kb, ko, rfl, hkc⟩ := up_int (HKI.out.below hbr) hlq
            obtain ⟨pr, cr, hr1', hr2', hr3'⟩ := (HWY2.out.below hbr).row (i := q) (by rw [rowsN_len]; exact hlq)
            have hrow := rowsN_at k.length v HVL.out q hlq
            rw [List.getD_eq_getElem?_getD, List.getElem?_eq_getElem (by rw [rowsN_len]; exact hlq)] at hrow
            have hrow2 : (rowsN m.length k.length v)[q]'(by rw [rowsN_len]; exact hlq) = (List.range m.length).map fun j => v.getD (q * m.length + j) 0 := hrow
            rw [hrow2] at hr2'
            obtain ⟨rb, ro, rfl, hrc⟩ := up_int hr2' (i := j) (by simpa using hlt)
            rw [getD_range _ _ hlt] at hrc
            obtain ⟨x, hx⟩ : ∃ x, v.getD (q * m.length + j) 0 = x := ⟨_, rfl⟩
            obtain ⟨y, hy⟩ : ∃ y, k.getD q 0 = y := ⟨_, rfl⟩
            rw [hx] at hrc
            rw [hy] at hkc
            have hnx : sumTo m.length j k v (q + 1) = sumTo m.length j k v q + y * x := by rw [sumTo, hx, hy]
            have hle := sumTo_le (K := m.length) (j := j) (k := k) (v := v) (i := q + 1) (i' := k.length) hlq
            rw [sumTo_all HK1.out HVM.out hlt] at hle
            have h6 : m.getD j 0 ≤ 6 := by rw [List.getD_eq_getElem?_getD, List.getElem?_eq_getElem hlt]; exact HF.out.small _ (List.getElem_mem _)
            obtain ⟨s0, hs0⟩ : ∃ s0, sumTo m.length j k v q = s0 := ⟨_, rfl⟩
            rw [hs0] at hnx ⊢
            rw [hnx] at hle
            obtain ⟨z, hz⟩ : ∃ z, y * x = z := ⟨_, rfl⟩
            have hmul : (y : Int) * (x : Int) = (z : Int) := by rw [← hz]; simp
            rw [hz] at hle hnx
            have w1' : IntKind.i64.wrap (z : Int) = (z : Int) := IntWalk.i64_in _ (by constructor <;> omega)
            obtain ⟨s1, hs1⟩ : ∃ s1, s0 + z = s1 := ⟨_, rfl⟩
            have w2' : IntKind.i64.wrap ((s0 : Int) + (z : Int)) = (s1 : Int) := (IntWalk.i64_in _ (by constructor <;> omega)).trans (by omega)
            have hneg : ¬ (x : Int) < 0 := by omega
            have HNX := hid (hnx.trans hs1)
            have HBR2 := hid hbr
            clear hbr hr2' hr3' hrow hrow2 hx hy hnx hle h6 hs0 hz hs1
            gi_wp2_with fail
            refine quiet_round rfl (by kernel_rfl) (by kernel_rfl) (by kernel_rfl) ?_
            repeat (gi_big_quiet_step (fail))
            refine wpQuietIn_nil ?_
            intro _ hw'
            obtain ⟨nq, hw''⟩ := hw'
            subst hw''
            gi_wp2_with fail
            refine quiet_round rfl (by kernel_rfl) (by kernel_rfl) (by kernel_rfl) ?_
            repeat (gi_big_quiet_step (fail))
            refine wpQuietIn_nil ?_
            intro _ hw'
            obtain ⟨nr, hw''⟩ := hw'
            subst hw''
            gi_wp2_with fail
            go_roundw
            case rel => exact ⟨q + 1, by omega, by go_num, by rw [HNX.out], below_drawn HBR2.out (nq + nr)⟩
            case measure => simp [intOf]; omega
          · have e1 : q = k.length := by omega
            subst e1
            have hsum := sumTo_all HK1.out HVM.out hlt
            obtain ⟨y, hy⟩ : ∃ y, m.getD j 0 = y := ⟨_, rfl⟩
            rw [hsum, hy]
            obtain ⟨mb, mo, rfl, hmc⟩ := up_int (HMI.out.below hbr) hlt
            rw [hy] at hmc
            have hc0 : wr.cell? ⟨w.heap.size, 0, none⟩ = some (.slice (some ⟨mb, mo, none⟩) m.length c) := below_cell hbr _ _ (cell_box HX2'.out rfl)
            have HBR2 := hid hbr
            clear hbr hsum hy
            gi_wp2_with fail
            go_roundw
            case rel => exact ⟨j + 1, by omega, by go_num, HBR2.out⟩
            case measure => simp [intOf]; omega
      · have e1 : j = m.length := by omega
        subst e1
        have HBR := hid hbr
        clear hbr
        gi_wp2_with fail
        gi_loopw [13, 14, 15] (fun qv _ _ wq => ∃ q : Nat, q ≤ k.length ∧ qv = .int .i64 (q : Int) ∧ Below W2.heap.size W2 wq) (fun qv _ _ _ => k.length - (intOf qv).toNat)
        case atStart => exact ⟨0, Nat.zero_le _, rfl, HBR.out⟩
        case round =>
          obtain ⟨q, hq, rfl, hbr⟩ := hrel
          obtain ⟨e', he'⟩ : ∃ e', e = e' := ⟨_, rfl⟩
          have hc2 : wr.cell? ⟨w.heap.size, 2, none⟩ = some (.bool e') := by rw [← he']; exact below_cell hbr _ _ (cell_box HX2'.out rfl)
          have hgo : q < k.length ∧ e' = false ∨ ¬ (q < k.length ∧ e' = false) := Decidable.em _
          rcases hgo with ⟨hlq, rfl⟩ | hstop
          · have HBR2 := hid hbr
            have hv2 := HVM.out
            rw [he'] at hv2
            have hsm := has_some HK1.out hv2 hlq
            have HSO := hid hsm
            clear hbr hv2 hsm
            gi_wp2_with fail
            gi_loopw [14, 15] (fun sv jv wq => ∃ j : Nat, j ≤ m.length ∧ jv = .int .i64 (j : Int) ∧ sv = .int .i64 ((hasTo m.length q v j : Nat) : Int) ∧ Below W2.heap.size W2 wq) (fun _ jv _ => m.length - (intOf jv).toNat)
            case atStart => exact ⟨0, Nat.zero_le _, rfl, rfl, HBR2.out⟩
            case round =>
              obtain ⟨j, hj, rfl, rfl, hbr⟩ := hrel
              obtain ⟨pr, cr, hr1', hr2', hr3'⟩ := (HWY2.out.below hbr).row (i := q) (by rw [rowsN_len]; exact hlq)
              by_cases hlj : j < m.length
              · have hrow := rowsN_at k.length v HVL.out q hlq
                rw [List.getD_eq_getElem?_getD, List.getElem?_eq_getElem (by rw [rowsN_len]; exact hlq)] at hrow
                have hrow2 : (rowsN m.length k.length v)[q]'(by rw [rowsN_len]; exact hlq) = (List.range m.length).map fun j => v.getD (q * m.length + j) 0 := hrow
                rw [hrow2] at hr2'
                obtain ⟨rb, ro, rfl, hrc⟩ := up_int hr2' (i := j) (by simpa using hlj)
                rw [getD_range _ _ hlj] at hrc
                have hx6 := way_six HF.out HVM.out (q * m.length + j)
                have hh := hasTo_le (K := m.length) (i := q) (fun p => way_six HF.out HVM.out p) j
                obtain ⟨x, hx⟩ : ∃ x, v.getD (q * m.length + j) 0 = x := ⟨_, rfl⟩
                have hnx : hasTo m.length q v (j + 1) = hasTo m.length q v j + x := by rw [hasTo, hx]
                obtain ⟨s0, hs0⟩ : ∃ s0, hasTo m.length q v j = s0 := ⟨_, rfl⟩
                rw [hs0] at hnx hh ⊢
                rw [hx] at hrc hx6
                obtain ⟨s1, hs1⟩ : ∃ s1, s0 + x = s1 := ⟨_, rfl⟩
                have w2' : IntKind.i64.wrap ((s0 : Int) + (x : Int)) = (s1 : Int) := (IntWalk.i64_in _ (by constructor <;> omega)).trans (by omega)
                have HNX := hid (hnx.trans hs1)
                have HBR3 := hid hbr
                clear hbr hr2' hr3' hrow hrow2 hx hnx hs0 hs1 hx6 hh
                gi_wp2_with fail
                go_roundw
                case rel => exact ⟨j + 1, by omega, by go_num, by rw [HNX.out], HBR3.out⟩
                case measure => simp [intOf]; omega
              · have e1 : j = m.length := by omega
                subst e1
                obtain ⟨x, hx⟩ : ∃ x, hasTo m.length q v m.length = x := ⟨_, rfl⟩
                have hxp : 0 < x := by rw [← hx]; exact HSO.out
                rw [hx]
                have hne : ((x : Int) == 0) = false := by simp; omega
                have HBR3 := hid hbr
                clear hbr hr2' hr3' hx
                gi_wp2_with fail
                go_roundw
                case rel => exact ⟨q + 1, by omega, by go_num, HBR3.out⟩
                case measure => simp [intOf]; omega
          · have HBR2 := hid hbr
            have hend : (q < k.length ∧ e' = true) ∨ q = k.length := by
              cases e'
              · right; simp at hstop; omega
              · by_cases h : q < k.length
                · exact .inl ⟨h, rfl⟩
                · right; omega
            clear hstop hbr
            have hcn : wr.cell? ⟨L + 1, 0, none⟩ = some (.int .i64 (i : Int)) := below_cell HBR2.out _ _ (cell_box HN2.out rfl)
            have hcq : wr.cell? ⟨w.heap.size + 1, 0, none⟩ = some (.int .u8 (most : Int)) := below_cell HBR2.out _ _ (cell_box HQ2'.out rfl)
            have hj0 := HJ.out
            have hle := hj0.le
            have hbw : Fr (fun b => b = L ∨ b = L + 1 ∨ b = L + 2 + 1) W wr := (HF2.out.mono fun q hq => .inr (.inr hq)).trans (Fr.of_below HBR2.out)
            have hWl : L + 4 ≤ W.heap.size := hj0.ak.sz
            have w1' : IntKind.i64.wrap ((i : Int) + 1) = (i : Int) + 1 := IntWalk.i64_in _ (by constructor <;> omega)
            have w2' : IntKind.i64.wrap (20 + (most : Int)) = 20 + (most : Int) := IntWalk.i64_in _ (by constructor <;> omega)
            have w3' : IntKind.i64.wrap (most : Int) = (most : Int) := IntWalk.i64_in _ (by constructor <;> omega)
            have hnr : wr.heap[L + 1]? = some (.cells #[.int .i64 (i : Int)] 3 (0, 0)) := (HBR2.out.block _ (Array.getElem?_eq_some_iff.1 HN2.out).1).trans HN2.out
            have hlr : wr.heap[L + 2 + 1]? = some (.loop { r with state := .busy }) := (HBR2.out.block _ (Array.getElem?_eq_some_iff.1 HL2.out).1).trans HL2.out
            have hwr : WayAt wr bs g m.length k.length (rowsN m.length k.length v) := HWY2.out.below HBR2.out
            obtain ⟨lv, hlv, hlvw⟩ : ∃ lv, wr.heap[L]? = some (.cells #[lv] 36 (0, 0)) ∧ ((i = 0 ∧ lv = .slice none 0 0) ∨ (0 < i ∧ ∃ g' A, lv = .slice (some ⟨g', 0, none⟩) k.length k.length ∧ RowsAt wr (some ⟨g', 0, none⟩) A ∧ A.length = k.length ∧ (∀ r ∈ A, r.length = m.length) ∧ ∃ i0 j0, i0 < k.length ∧ j0 < m.length ∧ (∀ i j, i < k.length → j < m.length → (i < i0 ∨ i = i0 ∧ j < j0) → tab2 A i j = tab2 ((rowsN m.length k.length v).map up) i j) ∧ tab2 A i0 j0 < tab2 ((rowsN m.length k.length v).map up) i0 j0)) := by
              have hsame : wr.heap[L]? = W.heap[L]? := (HBR2.out.block _ (Nat.lt_of_lt_of_le (by omega) HF2.out.low.size)).trans (HF2.out.same _ (by omega) (by omega))
              rcases hj0.last with ⟨h1, h2⟩ | ⟨g', v', h1, h2, h3, h4⟩
              · exact ⟨_, hsame.trans h2, .inl ⟨h1, rfl⟩⟩
              · refine ⟨_, hsame.trans h3, .inr ⟨h1, g', (rowsN m.length k.length v').map up, rfl, ?_, by rw [List.length_map, rowsN_len], ?_, ?_⟩⟩
                · have h5 : LstW (L + 4) m.length k.length g' (rowsN m.length k.length v') M wr := LstW.own h4 hbw (by rintro b hb; omega)
                  obtain ⟨bs', h6⟩ := h5.way
                  exact h6.rows (rowsN_len _ _ _) hT5
                · have hv'm : v' ∈ waysF m k e := by
                    obtain ⟨h5, h6⟩ := List.getElem?_eq_some_iff.1 h2
                    rw [← h6]; exact List.getElem_mem _
                  exact rows_len (way_len HK1.out hv'm)
                · have hv'm : v' ∈ waysF m k e := by
                    obtain ⟨h5, h6⟩ := List.getElem?_eq_some_iff.1 h2
                    rw [← h6]; exact List.getElem_mem _
                  have hlt : v' < v := by
                    obtain ⟨h5, h6⟩ := List.getElem?_eq_some_iff.1 h2
                    obtain ⟨h7, h8⟩ := List.getElem?_eq_some_iff.1 HV.out
                    have h9 := List.pairwise_iff_getElem.1 (show (waysF m k e).Pairwise (· < ·) from LL_rise _ _ _ _) (i - 1) i h5 h7 (by omega)
                    rw [h6, h8] at h9
                    exact h9
                  exact rows_lt (way_len HK1.out hv'm) HVL.out hlt
            have hcl : wr.cell? ⟨L, 0, none⟩ = some lv := cell_box hlv rfl
            have FIN : ∀ Wr, Below wr.heap.size wr Wr → ∀ st pd, Fr (fun b => b = L ∨ b = L + 1 ∨ b = L + 2 + 1) W (((Wr.setCell ⟨L, 0, none⟩ (.slice (some ⟨g, 0, none⟩) k.length k.length)).setCell ⟨L + 1, 0, none⟩ (.int .i64 ((i : Int) + 1))).putObj (L + 2 + 1) (.loop { r with state := st, pending := pd })) ∧
                (((Wr.setCell ⟨L, 0, none⟩ (.slice (some ⟨g, 0, none⟩) k.length k.length)).setCell ⟨L + 1, 0, none⟩ (.int .i64 ((i : Int) + 1))).putObj (L + 2 + 1) (.loop { r with state := st, pending := pd })).heap[L]? = some (.cells #[.slice (some ⟨g, 0, none⟩) k.length k.length] 36 (0, 0)) ∧
                (((Wr.setCell ⟨L, 0, none⟩ (.slice (some ⟨g, 0, none⟩) k.length k.length)).setCell ⟨L + 1, 0, none⟩ (.int .i64 ((i : Int) + 1))).putObj (L + 2 + 1) (.loop { r with state := st, pending := pd })).heap[L + 1]? = some (.cells #[.int .i64 ((i : Int) + 1)] 3 (0, 0)) ∧
                (((Wr.setCell ⟨L, 0, none⟩ (.slice (some ⟨g, 0, none⟩) k.length k.length)).setCell ⟨L + 1, 0, none⟩ (.int .i64 ((i : Int) + 1))).putObj (L + 2 + 1) (.loop { r with state := st, pending := pd })).heap[L + 2 + 1]? = some (.loop { r with state := st, pending := pd }) ∧
                ((Wr.setCell ⟨L, 0, none⟩ (.slice (some ⟨g, 0, none⟩) k.length k.length)).setCell ⟨L + 1, 0, none⟩ (.int .i64 ((i : Int) + 1))).heap[L + 2 + 1]? = some (.loop { r with state := .busy }) ∧
                WayAt (((Wr.setCell ⟨L, 0, none⟩ (.slice (some ⟨g, 0, none⟩) k.length k.length)).setCell ⟨L + 1, 0, none⟩ (.int .i64 ((i : Int) + 1))).putObj (L + 2 + 1) (.loop { r with state := st, pending := pd })) bs g m.length k.length (rowsN m.length k.length v) := by
              intro Wr hWr st pd
              have h1 : Wr.heap[L]? = some (.cells #[lv] 36 (0, 0)) := (hWr.block _ (Array.getElem?_eq_some_iff.1 hlv).1).trans hlv
              have h2 : Wr.heap[L + 1]? = some (.cells #[.int .i64 (i : Int)] 3 (0, 0)) := (hWr.block _ (Array.getElem?_eq_some_iff.1 hnr).1).trans hnr
              have h3 : Wr.heap[L + 2 + 1]? = some (.loop { r with state := .busy }) := (hWr.block _ (Array.getElem?_eq_some_iff.1 hlr).1).trans hlr
              have f1 := fr_set Wr L 0 (.slice (some ⟨g, 0, none⟩) k.length k.length)
              have f2 := fr_set (Wr.setCell ⟨L, 0, none⟩ (.slice (some ⟨g, 0, none⟩) k.length k.length)) (L + 1) 0 (.int .i64 ((i : Int) + 1))
              have g1 : (Wr.setCell ⟨L, 0, none⟩ (.slice (some ⟨g, 0, none⟩) k.length k.length)).heap[L]? = some (.cells #[.slice (some ⟨g, 0, none⟩) k.length k.length] 36 (0, 0)) := block_set h1 _
              have g2 : ((Wr.setCell ⟨L, 0, none⟩ (.slice (some ⟨g, 0, none⟩) k.length k.length)).setCell ⟨L + 1, 0, none⟩ (.int .i64 ((i : Int) + 1))).heap[L + 1]? = some (.cells #[.int .i64 ((i : Int) + 1)] 3 (0, 0)) := block_set ((set_far (by omega) _).trans h2) _
              have g3 : ((Wr.setCell ⟨L, 0, none⟩ (.slice (some ⟨g, 0, none⟩) k.length k.length)).setCell ⟨L + 1, 0, none⟩ (.int .i64 ((i : Int) + 1))).heap[L]? = some (.cells #[.slice (some ⟨g, 0, none⟩) k.length k.length] 36 (0, 0)) := (set_far (by omega) _).trans g1
              have g4 : ((Wr.setCell ⟨L, 0, none⟩ (.slice (some ⟨g, 0, none⟩) k.length k.length)).setCell ⟨L + 1, 0, none⟩ (.int .i64 ((i : Int) + 1))).heap[L + 2 + 1]? = some (.loop { r with state := .busy }) := (set_far (by omega) _).trans ((set_far (by omega) _).trans h3)
              have f3 : Fr (fun b => b = L ∨ b = L + 1 ∨ b = L + 2 + 1) wr ((Wr.setCell ⟨L, 0, none⟩ (.slice (some ⟨g, 0, none⟩) k.length k.length)).setCell ⟨L + 1, 0, none⟩ (.int .i64 ((i : Int) + 1))) := (Fr.of_below hWr).trans ((f1.mono fun q hq => .inl hq).trans (f2.mono fun q hq => .inr (.inl hq)))
              have f4 := fr_one (W := (Wr.setCell ⟨L, 0, none⟩ (.slice (some ⟨g, 0, none⟩) k.length k.length)).setCell ⟨L + 1, 0, none⟩ (.int .i64 ((i : Int) + 1))) (L + 2 + 1) (.loop { r with state := st, pending := pd })
              have f5 := f3.trans (f4.mono fun q hq => .inr (.inr hq))
              exact ⟨hbw.trans f5, (World.putObj_heap_other (by omega)).trans g3, (World.putObj_heap_other (by omega)).trans g2, World.putObj_heap_same (Array.getElem?_eq_some_iff.1 g4).1, g4, hwr.same fun b hb hb' => f5.same b hb' (by have := HBL.out; omega)⟩
            have FINJ : ∀ Wr, Below wr.heap.size wr Wr → i + 1 ≤ 20 + most → AdK m k e most Ws (L + 4) L (L + 1) (L + 2 + 1) r (i + 1) M (((Wr.setCell ⟨L, 0, none⟩ (.slice (some ⟨g, 0, none⟩) k.length k.length)).setCell ⟨L + 1, 0, none⟩ (.int .i64 ((i : Int) + 1))).putObj (L + 2 + 1) (.loop { r with state := .ready, pending := none })) := by
              intro Wr hWr hi1
              obtain ⟨z1, z2, z3, z4, z5, z6⟩ := FIN Wr hWr .ready none
              refine ⟨hj0.ak.own z1, by rw [z3]; simp, .inr ⟨g, v, by omega, by rw [Nat.add_sub_cancel]; exact HV.out, z2, LstW.new z6 HMM.out HBL.out⟩, by rw [z4, loop_again hr1 hr2], hi1⟩
            have FIN := hid FIN; have FINJ := hid FINJ; have HBR3 := hid HBR2.out
            have hfL : wr.frozen? ⟨L, 0, none⟩ = false := by simp [World.frozen?, hlv]
            have hfN : wr.frozen? ⟨L + 1, 0, none⟩ = false := by simp [World.frozen?, hnr]
            have n1 : ¬ (w.heap.size + 1 = L) := by have := HLB.out; omega
            have n2 : ¬ (w.heap.size = L) := by have := HLB.out; omega
            have n3 : ¬ (L = w.heap.size + 1) := by have := HLB.out; omega
            have n4 : ¬ (L = w.heap.size) := by have := HLB.out; omega
            clear hbw hlv hnr hlr hwr hj0 hle
            rcases hlvw with ⟨hi0, rfl⟩ | ⟨hi0, g', A, rfl, hRA, hAl, hAk, i0, j0, h0i, h0j, heq, hlt⟩
            · have hz0 : ¬ (0 : Int) < (i : Int) := by omega
              have hbk' : ¬ (20 + (most : Int) < (i : Int) + 1) := by omega
              have hbk2 : i + 1 ≤ 20 + most := by omega
              clear hi0
              rcases hend with ⟨hlq, rfl⟩ | rfl
              all_goals
                gi_wp2_with fail
                refine ⟨trivial, ?_⟩
                gi_wp2_with fail
                obtain ⟨z1, z2, z3, z4, z5, z6⟩ := FIN.out wr (Below.refl _ _) .ready none
                refine ⟨z5, fun b hb => z1.same b (by have := HMM.out b hb; have := HB1.out; omega) (by have := HJ.out.ak.mm b hb; omega), z1.low.size, .inl ⟨rfl, FINJ.out wr (Below.refl _ _) hbk2⟩⟩
            · have hz0 : (0 : Int) < (i : Int) := by omega
              have HRS := hid (rises_any (some ⟨g', 0, none⟩) (some ⟨g, 0, none⟩) k.length k.length A ((rowsN m.length k.length v).map up) k.length m.length i0 j0 wr hRA ((HWY2.out.below HBR3.out).rows (rowsN_len _ _ _) hT5) hAl (by rw [List.length_map, rowsN_len]) hAk (rows_len HVL.out) h0i h0j heq hlt)
              clear hRA hAl hAk heq hlt h0i h0j
              by_cases hbk : 20 + most < i + 1
              · have hbk' : (20 + (most : Int) < (i : Int) + 1) := by omega
                rcases hend with ⟨hlq, rfl⟩ | rfl
                all_goals
                  gi_wp2_with fail
                  refine ⟨trivial, (by intro h; cases h), (CallsIn.inRound _ (callsIn_wide.2 HRS.out)).mono ?_⟩
                  rintro en wR ⟨rfl, hbR⟩
                  have hcnR := below_cell hbR _ _ hcn
                  have hcqR := below_cell hbR _ _ hcq
                  have hclR := below_cell hbR _ _ hcl
                  have hfLR : wR.frozen? ⟨L, 0, none⟩ = false := by rw [hbR.frozen (World.block_lt_of_cell? wr _ hcl)]; exact hfL
                  have hfNR : wR.frozen? ⟨L + 1, 0, none⟩ = false := by rw [hbR.frozen (World.block_lt_of_cell? wr _ hcn)]; exact hfN
                  have HBR4 := hid hbR
                  clear hbR
                  gi_wp2_with fail
                  obtain ⟨z1, z2, z3, z4, z5, z6⟩ := FIN.out wR HBR4.out .done (some (.exit 0))
                  refine ⟨z5, fun b hb => z1.same b (by have := HMM.out b hb; have := HB1.out; omega) (by have := HJ.out.ak.mm b hb; omega), z1.low.size, .inr ⟨rfl, HJ.out.ak.fr.trans (z1.mono fun q hq => .inl hq), z4⟩⟩
              · have hbk' : ¬ (20 + (most : Int) < (i : Int) + 1) := by omega
                rcases hend with ⟨hlq, rfl⟩ | rfl
                all_goals
                  gi_wp2_with fail
                  refine ⟨trivial, (by intro h; cases h), (CallsIn.inRound _ (callsIn_wide.2 HRS.out)).mono ?_⟩
                  rintro en wR ⟨rfl, hbR⟩
                  have hcnR := below_cell hbR _ _ hcn
                  have hcqR := below_cell hbR _ _ hcq
                  have hclR := below_cell hbR _ _ hcl
                  have hfLR : wR.frozen? ⟨L, 0, none⟩ = false := by rw [hbR.frozen (World.block_lt_of_cell? wr _ hcl)]; exact hfL
                  have hfNR : wR.frozen? ⟨L + 1, 0, none⟩ = false := by rw [hbR.frozen (World.block_lt_of_cell? wr _ hcn)]; exact hfN
                  have HBR4 := hid hbR
                  clear hbR
                  gi_wp2_with fail
                  obtain ⟨z1, z2, z3, z4, z5, z6⟩ := FIN.out wR HBR4.out .ready none
                  refine ⟨z5, fun b hb => z1.same b (by have := HMM.out b hb; have := HB1.out; omega) (by have := HJ.out.ak.mm b hb; omega), z1.low.size, .inl ⟨rfl, FINJ.out wR HBR4.out (by omega)⟩⟩
  · refine ⟨⟨fun b hb => hb.elim, by rw [HSS.out]; exact Nat.le_refl _, Fr.refl _ _⟩, (HBS.out.block _ (by rw [HS5.out]; omega)).trans HN5.out, .inl ⟨rfl, (HBS.out.block _ (by rw [HS5.out]; omega)).trans HL5.out⟩, HLP.out, Nat.zero_le _⟩
  · rintro e W ⟨hv, hJ⟩
    have hlb := HLB.out
    have hcom : Fr (fun b => (b = L ∨ b = L + 1 ∨ b = L + 2 + 1) ∨ L + 4 ≤ b) Ws W ∧ ((W.heap[L + 2 + 1]? = some (.loop r)) ∨ W.heap[L + 2 + 1]? = some (.loop { r with state := .done, pending := some (.exit 0) })) := by
      rcases hJ with ⟨M, h⟩ | ⟨h, h2⟩
      · exact ⟨h.ak.fr, .inl h.lp⟩
      · exact ⟨h, .inr h2⟩
    obtain ⟨hfr, hlp⟩ := hcom
    clear hJ
    have hsame : ∀ b, b < L + 4 → b ≠ L → b ≠ L + 1 → b ≠ L + 2 + 1 → W.heap[b]? = Ws.heap[b]? := fun b hb h1 h2 h3 => hfr.same b (by rw [HSS.out]; exact hb) (by omega)
    have hdeq : W.heap[L + 2]? = some (.deferred (some [])) := (hsame _ (by omega) (by omega) (by omega) (by omega)).trans HDF.out
    have hres : W.heap[w.heap.size + 2]? = some (.cells #[.bool false] 4 (0, 0)) := (hsame _ (by omega) (by omega) (by omega) (by omega)).trans ((HBS.out.block _ (by rw [HS5.out]; omega)).trans ((HB5.out.block _ (by omega)).trans HR5.out))
    have hbW : Below w.heap.size w W := by
      have h1 : Below w.heap.size w w4 := HB2.out.trans (HB4.out.mono HB2.out.size)
      have h2 : Below w.heap.size w4 Ws := (HB5.out.mono (by omega)).trans (HBS.out.mono (by rw [HS5.out]; omega))
      exact h1.trans (h2.trans (hfr.below (fun q hq => by omega) (by rw [HSS.out]; omega)))
    refine ⟨hv, hdeq, ?_⟩
    have hlw : L + 2 + 1 < W.heap.size := by have := hfr.low.size; rw [HSS.out] at this; omega
    have hEND : ∀ st pd, ∃ WZ, W.putObj (L + 2 + 1) (.loop { r with state := st, pending := pd }) = WZ ∧ WZ.heap[L + 2]? = some (.deferred (some [])) ∧ WZ.heap[w.heap.size + 2]? = some (.cells #[.bool false] 4 (0, 0)) ∧ Below w.heap.size w WZ := fun st pd =>
      ⟨_, rfl, (World.putObj_heap_other (by omega)).trans hdeq, (World.putObj_heap_other (by omega)).trans hres, hbW.trans ((fr_one (L + 2 + 1) _).below (fun q hq => by omega) hbW.size)⟩
    have HEND := hid hEND
    clear hEND hdeq hres hbW hfr hsame
    rename_i K1 hK1
    rcases hlp with h | h
    · refine .inl ⟨h, ?_⟩
      obtain ⟨WZ, e1, e2, e3, e4⟩ := HEND.out .exhausted r.pending
      rw [show ({ r with state := .exhausted } : Loop) = { r with state := .exhausted, pending := r.pending } from rfl, e1]
      have hcz : WZ.cell? ⟨w.heap.size + 2, 0, none⟩ = some (.bool false) := cell_box e3 rfl
      have hfz : WZ.frozen? ⟨w.heap.size + 2, 0, none⟩ = false := by simp [World.frozen?, e3]
      have E2 := hid e2; have E4 := hid e4
      clear e1 e2 e3 e4
      refine hK1 _ _ ?_
      clear hK1
      go_wp2_with fail
      have hDD : (WZ.setCell ⟨w.heap.size + 1 + 1, 0, none⟩ (.bool true)).heap[L + 2]? = some (.deferred (some [])) := (set_far (by omega) _).trans E2.out
      have hBE : Below w.heap.size w (WZ.setCell ⟨w.heap.size + 1 + 1, 0, none⟩ (.bool true)) := E4.out.setCell (p := ⟨w.heap.size + 1 + 1, 0, none⟩) (by show w.heap.size ≤ w.heap.size + 1 + 1; omega) _
      refine ⟨by simp, .inl ⟨_, _, rfl, run_takeDeferred hDD, ?_⟩⟩
      refine ⟨_, results_c1 rfl rfl (load_bool (v := true) ?_), rfl, hBE.trans ((fr_one _ _).below (n := w.heap.size) (fun q hq => by omega) hBE.size)⟩
      exact (cell_same (World.putObj_heap_other (by show w.heap.size + 1 + 1 ≠ L + 2; omega))).trans (World.cell?_setCell_same _ _ _ hcz)
    · refine .inr ⟨_, h, ?_⟩
      obtain ⟨WZ, e1, e2, e3, e4⟩ := HEND.out .exhausted (some (.exit 0))
      rw [e1]
      have hcz : WZ.cell? ⟨w.heap.size + 2, 0, none⟩ = some (.bool false) := cell_box e3 rfl
      have hfz : WZ.frozen? ⟨w.heap.size + 2, 0, none⟩ = false := by simp [World.frozen?, e3]
      have E2 := hid e2; have E4 := hid e4
      clear e1 e2 e3 e4
      refine wpIn_exit ?_
      refine hK1 _ _ ?_
      clear hK1
      go_wp2_with fail
      have hDD : (WZ.setCell ⟨w.heap.size + 1 + 1, 0, none⟩ (.bool true)).heap[L + 2]? = some (.deferred (some [])) := (set_far (by omega) _).trans E2.out
      have hBE : Below w.heap.size w (WZ.setCell ⟨w.heap.size + 1 + 1, 0, none⟩ (.bool true)) := E4.out.setCell (p := ⟨w.heap.size + 1 + 1, 0, none⟩) (by show w.heap.size ≤ w.heap.size + 1 + 1; omega) _
      refine ⟨by simp, .inl ⟨_, _, rfl, run_takeDeferred hDD, ?_⟩⟩
      refine ⟨_, results_c1 rfl rfl (load_bool (v := true) ?_), rfl, hBE.trans ((fr_one _ _).below (n := w.heap.size) (fun q hq => by omega) hBE.size)⟩
      exact (cell_same (World.putObj_heap_other (by show w.heap.size + 1 + 1 ≠ L + 2; omega))).trans (World.cell?_setCell_same _ _ _ hcz)
theorem adds_walk (a b : Option Addr) (c d : Nat) (m k : List Int) (e : Bool) (most : Nat) (w : World) (hM : IntsAt w a m) (hK : IntsAt w b k) (hTab : Tab w) (ha : a = none → c = 0) (hmost : most < 256) :
    Calls Tryd.prog 5 #[.agg #[.slice a m.length c, .slice b k.length d, .bool e], .int .u8 (most : Int)] w fun en w' => en = .returned (.bool true) ∧ Below w.heap.size w w' := by
  by_cases h : chkE m k = 0
  · obtain ⟨M, K, rfl, rfl, hF⟩ := chk_fine h
    rw [up_len, up_len]
    exact adds_fine a b c d M K e most w hM hK hTab hF ha hmost
  · exact adds_bad a b c d m k e most w hM hK hTab h
end Go.Proofs.YtdpdpjfnanjmgaaDoor
