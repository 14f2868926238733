/- The walk of TermsGoes. -/
import Derived.Test.YtmhdapgiealmfaaTRPlaces
import Derived.Test.YtmhdapgiealmfaaTBackP
import Derived.Test.YtmhdapgiealmfaaTSpoil
import Derived.Test.YtmhdapgiealmfaaTRAt
import Derived.Test.YtmhdapgiealmfaaTHead
import Derived.Test.YtmhdapgiealmfaaRound
namespace Go.Proofs.Ytmhdapgiealmfaa
open Go.RowKit Go.Shelf Go.Deep

attribute [local go_sem] Oper.semAt_some

/-- How many places the loop within has counted, so many having come. -/
def innerOf (L k : Nat) : Int := if k = 0 then 0 else (L : Int)
def seqV (B : Nat) : Value := .func (.func 46) #[] #[.pointer (some ⟨B, 0, none⟩)]

/-- What the loop's variables hold between two rounds. -/
structure GoesCore (w4 : World) (B L : Nat) (pre : List El) (W : World) : Prop where
  n : Boxed W (w4.heap.size + 1) 3 (.int .i64 (pre.length : Int))
  inner : Boxed W (w4.heap.size + 1 + 1) 3 (.int .i64 (innerOf L pre.length))
  seq : Boxed W w4.heap.size 48 (seqV B)
  low : Below w4.heap.size w4 W
theorem GoesCore.mv {w4 : World} {B L : Nat} {pre : List El} {W W' : World} {B0 : Nat} (h : GoesCore w4 B L pre W) (hm : Mv B0 W W') (hB : w4.heap.size + 2 < B0) : GoesCore w4 B L pre W' :=
  ⟨boxed_mv h.n hm (by omega), boxed_mv h.inner hm (by omega), boxed_mv h.seq hm (by omega), below_mv h.low hm (by omega)⟩

theorem GoesCore.fr {w4 : World} {B L : Nat} {pre : List El} {W V : World} {A : Nat → Prop} (h : GoesCore w4 B L pre W) (hF : Fr A W V) (hA : ∀ q, A q → w4.heap.size + 3 ≤ q) : GoesCore w4 B L pre V :=
  ⟨(hF.same _ h.n.lt (fun hq => by have := hA _ hq; omega)).trans h.n, (hF.same _ h.inner.lt (fun hq => by have := hA _ hq; omega)).trans h.inner, (hF.same _ h.seq.lt (fun hq => by have := hA _ hq; omega)).trans h.seq,
    h.low.trans (hF.below (fun q hq => by have := hA q hq; omega) h.low.size)⟩
theorem ints_of_row {W : World} {b : Nat} {v : Value} {ps : List Int} (h : W.ownsRow b 3 1 v ps.length (intsV ps)) :
    ∃ a c, v = .slice a ps.length c ∧ ps.length ≤ c ∧ c ≤ maxLen ∧ IntsAt W a ps.length ps ∧ (∀ g o s, a = some ⟨g, o, s⟩ → o = 0 ∧ s = none ∧ b ≤ g ∧ ∃ cur, W.heap[g]? = some (Obj.cells cur 3 (0, 0))) := by
  rcases h.2 with ⟨rfl, hn⟩ | ⟨g, cap, cur, rfl, hg, hh, hnc, hcm, hsz, hcur⟩
  · obtain rfl : ps = [] := List.length_eq_zero_iff.1 hn
    exact ⟨none, 0, rfl, Nat.le_refl _, by simp, ⟨rfl, fun i hi => by simp at hi⟩, fun _ _ _ e => by cases e⟩
  · refine ⟨_, cap, rfl, hnc, hcm, ⟨rfl, fun i hi => ⟨g, 0, rfl, ?_⟩⟩, fun _ _ _ e => by cases e; exact ⟨rfl, rfl, hg, cur, hh⟩⟩
    have := owns_at h i (.int .i64 ps[i]) (by simp [intsV, hi])
    exact this

/-- This block is the path's. -/
def PathBlk (a : Option Addr) (k : Nat) : Prop := ∃ o s, a = some ⟨k, o, s⟩
theorem Fr.set3 {A : Nat → Prop} {W : World} {g : Nat} (hg : A g) (i : Nat) (a : Value) : Fr A W (W.setCell ⟨g, i, none⟩ a) :=
  ⟨(Below.refl 0 W).setCell (p := ⟨g, i, none⟩) (Nat.zero_le _) _, fun q _ hn => Below.heap_setCell _ _ _ q (fun e => hn (e ▸ hg))⟩
theorem Fr.drew {A : Nat → Prop} {X W : World} (h : Fr A X W) : Fr A X W.drew := ⟨h.low.drew, h.same⟩

theorem Fr.keeps26 {W V : World} {a : Option Addr} (h : Fr (PathBlk a) W V) (hb : ∀ g o s, a = some ⟨g, o, s⟩ → ∃ cur, W.heap[g]? = some (Obj.cells cur 3 (0, 0))) : Keeps26 W V := fun k cs fr hk => by
  refine (h.same k (Array.getElem?_eq_some_iff.1 hk).1 (fun ⟨o, s, e⟩ => ?_)).trans hk
  obtain ⟨cur, hc⟩ := hb _ _ _ e
  rw [hk] at hc
  cases hc

theorem Fr.mv {A : Nat → Prop} {X V V' : World} (h : Fr A X V) (hm : Mv X.heap.size V V') : Fr A X V' := ⟨h.low.trans (hm.below.mono (Nat.zero_le _)), fun q hq hn => (hm.below.block q hq).trans (h.same q hq hn)⟩
theorem KpA.set {b B : Nat} {e : El} {W : World} {v : Value} (hB : Boxed W B 3 v) (hlt : B < b) (u : Value) : KpA b e W (W.setCell ⟨B, 0, none⟩ u) :=
  ⟨(Below.refl _ _).setCell (p := ⟨B, 0, none⟩) (Nat.zero_le _) u, fun k cs t fr hk ht => by
    refine (Below.heap_setCell W ⟨B, 0, none⟩ u k (fun e' => ?_)).trans hk
    have e'' : k = B := e'
    subst e''
    rw [show W.heap[k]? = _ from hB] at hk
    cases hk
    rcases ht with h | h | h | h | ⟨_, h, _⟩
    · cases h
    · cases h
    · cases h
    · cases h
    · omega⟩
/-- What a round of the outer loop leaves. -/
theorem goes_end {w4 W V : World} {B L b B0 : Nat} {pre : List El} {q : List Int} {ex : ByteArray × Int} {el : Fo} {pa ea : Option Addr} {pc ec : Nat} (hC : GoesCore w4 B L pre W) (hb : w4.heap.size + 3 ≤ b)
    (hPb : ∀ g o s, pa = some ⟨g, o, s⟩ → o = 0 ∧ s = none ∧ b ≤ g ∧ ∃ cur, W.heap[g]? = some (Obj.cells cur 3 (0, 0))) (hF : Fr (fun q => PathBlk pa q ∨ q = w4.heap.size + 1 + 1) W V) (bI : Boxed V (w4.heap.size + 1 + 1) 3 (.int .i64 (innerOf L (pre.length + 1)))) :
    GoesCore w4 B L (pre ++ [⟨q, ex, el, .slice pa q.length pc, ea, ec⟩]) (V.setCell ⟨w4.heap.size + 1, 0, none⟩ (.int .i64 ((pre.length : Int) + 1))) ∧ KpA b ⟨q, ex, el, .slice pa q.length pc, ea, ec⟩ W (V.setCell ⟨w4.heap.size + 1, 0, none⟩ (.int .i64 ((pre.length : Int) + 1))) ∧
      KeepsFrom B0 W (V.setCell ⟨w4.heap.size + 1, 0, none⟩ (.int .i64 ((pre.length : Int) + 1))) := by
  have hblk : ∀ q, PathBlk pa q → b ≤ q := fun q ⟨o, s, e⟩ => (hPb _ _ _ e).2.2.1
  have far : ∀ q, q < w4.heap.size + 2 → q < W.heap.size → V.heap[q]? = W.heap[q]? := fun q hq hlt => hF.same q hlt (fun h => by
    rcases h with h | h
    · have := hblk q h; omega
    · omega)
  have bN : Boxed V (w4.heap.size + 1) 3 (.int .i64 (pre.length : Int)) := (far _ (by omega) hC.n.lt).trans hC.n
  have bS : Boxed V w4.heap.size 48 (seqV B) := (far _ (by omega) hC.seq.lt).trans hC.seq
  have hlow : Below w4.heap.size w4 V := hC.low.trans (hF.below (fun q hq => by
    rcases hq with h | h
    · have := hblk q h; omega
    · omega) hC.low.size)
  have hsame : ∀ k o, W.heap[k]? = some o → (∀ cs fr, o ≠ Obj.cells cs 3 fr ∨ (b ≤ k ∧ ¬ PathBlk pa k)) → (V.setCell ⟨w4.heap.size + 1, 0, none⟩ (.int .i64 ((pre.length : Int) + 1))).heap[k]? = some o := fun k o hk ho => by
    have h1 : k ≠ w4.heap.size + 1 := fun e => by
      subst e
      rw [show W.heap[_]? = _ from hC.n] at hk
      cases hk
      rcases ho _ _ with h | h
      · exact h rfl
      · omega
    refine (Below.heap_setCell V ⟨w4.heap.size + 1, 0, none⟩ _ k h1).trans ((hF.same k (Array.getElem?_eq_some_iff.1 hk).1 (fun h => ?_)).trans hk)
    rcases h with ⟨o', s', e⟩ | h
    · obtain ⟨_, _, _, cur, hc⟩ := hPb _ _ _ e
      rw [hk] at hc
      cases hc
      rcases ho cur (0, 0) with h | h
      · exact h rfl
      · exact h.2 ⟨o', s', e⟩
    · subst h
      rw [show W.heap[_]? = _ from hC.inner] at hk
      cases hk
      rcases ho _ _ with h | h
      · exact h rfl
      · omega
  refine ⟨⟨?_, ?_, bS.other (by omega) _, hlow.setCell (p := ⟨w4.heap.size + 1, 0, none⟩) (by show _ ≤ w4.heap.size + 1; omega) _⟩, ⟨hF.low.setCell (p := ⟨w4.heap.size + 1, 0, none⟩) (Nat.zero_le _) _, fun k cs t fr hk ht => hsame k _ hk (fun cs' fr' => ?_)⟩, ⟨by simpa using hF.low.size, fun k o _ hk ho => hsame k o hk (fun cs fr => .inl (fun e => by rw [e] at ho; cases ho))⟩⟩
  · rw [List.length_append, List.length_singleton, Int.natCast_add]
    exact bN.set _
  · rw [List.length_append, List.length_singleton]
    exact bI.other (by omega) _
  · rcases ht with h | h | h | h | ⟨_, h1, h2⟩
    · exact .inl (fun e => by cases e; cases h)
    · exact .inl (fun e => by cases e; cases h)
    · exact .inl (fun e => by cases e; cases h)
    · exact .inl (fun e => by cases e; cases h)
    · refine .inr ⟨h1, fun ⟨o, s, e⟩ => h2 ?_⟩
      subst e
      rfl

set_option maxRecDepth 100000 in
set_option maxHeartbeats 4000000 in
theorem termsGoes_walk (x : ByteArray × Int) (l : Fo) (a : Option Addr) (c : Nat) (most : Int) (w : World) (hT : TmAt w x a c l) (hbig : nodesF l + 1 ≤ 1048576) :
    Calls Try.prog 7 #[.agg #[.string x.1, .int .i64 x.2, .slice a (lenF l) c], .int .i64 most] w fun e w' => e = .returned (.bool true) ∧ Below w.heap.size w w' := by
  refine (callsIn_wide (n := 9)).1 ?_
  have h1 : 1 ≤ 9 := by omega
  have HT : Hid (TmAt w x a c l) := hT
  obtain ⟨W1, hW1⟩ : ∃ W1, ((w.alloc (.cells #[.string x.1, .int .i64 x.2, .slice a (lenF l) c] 26)).alloc (.cells #[.int .i64 most] 3)).alloc (.cells #[.bool false] 4) = W1 := ⟨_, rfl⟩
  have B1 : Hid (Below w.heap.size w W1) := by show Below _ _ _; rw [← hW1]; exact (((Below.refl _ w).alloc (Nat.le_refl _) _).alloc (by simp) _).alloc (by simp; omega) _
  have T1 : Hid (TBox W1 w.heap.size x a (lenF l) c) := by
    show TBox _ _ _ _ _ _
    rw [← hW1]
    exact (TBox.below (TBox.new w x a (lenF l) c) ((Below.refl _ _).alloc (Nat.le_refl _) _)).below ((Below.refl _ _).alloc (Nat.le_refl _) _)
  have M1 : Hid (Boxed W1 (w.heap.size + 1) 3 (.int .i64 most)) := by
    show Boxed _ _ _ _
    rw [← hW1]
    have := (Boxed.new (w.alloc (.cells #[.string x.1, .int .i64 x.2, .slice a (lenF l) c] 26)) 3 (.int .i64 most)).alloc (.cells #[.bool false] 4)
    simpa using this
  have R1 : Hid (Boxed W1 (w.heap.size + 1 + 1) 4 (.bool false)) := by
    show Boxed _ _ _ _
    rw [← hW1]
    have := Boxed.new ((w.alloc (.cells #[.string x.1, .int .i64 x.2, .slice a (lenF l) c] 26)).alloc (.cells #[.int .i64 most] 3)) 4 (.bool false)
    simpa using this
  have s1 : W1.heap.size = w.heap.size + 3 := by rw [← hW1]; simp
  clear hT
  refine callsIn_of_wp_marks Try.func7 rfl trivial ?_ rfl
  simp only [Try.ntmps7, List.size_toArray, List.length_cons, List.length_nil, Nat.reduceAdd, Nat.reduceSub, Array.replicate_succ, Array.replicate_zero, List.push_toArray, List.append_toArray, List.nil_append, List.cons_append]
  gi_wp2_with (rw [hW1])
  clear hW1
  refine ⟨trivial, ?_⟩
  refine (callsIn_wide.2 (head_any _)).mono ?_
  rintro e w1 ⟨rfl, hb1⟩
  have B2 : Hid (Below w.heap.size w w1) := B1.out.trans (hb1.mono B1.out.size)
  have T2 : Hid (TBox w1 w.heap.size x a (lenF l) c) := T1.out.below hb1
  have M2 : Hid (Boxed w1 (w.heap.size + 1) 3 (.int .i64 most)) := boxed_below M1.out hb1
  have R2 : Hid (Boxed w1 (w.heap.size + 1 + 1) 4 (.bool false)) := boxed_below R1.out hb1
  have z1 := hb1.size
  clear hb1 B1 T1 M1 R1
  have x0 := T2.out.c0; have x1 := T2.out.c1; have x2 := T2.out.c2
  gi_wp2_with fail
  refine ⟨trivial, ?_⟩
  refine (callsIn_wide.2 (rplaces_any x l a c w1 (HT.out.below B2.out) (by omega))).mono ?_
  rintro e w2 ⟨v, vs, rfl, hr2, hp2, hb2⟩
  obtain ⟨g, cap, rfl⟩ := ownsRow_succ hr2
  have B3 : Hid (Below w.heap.size w w2) := B2.out.trans (hb2.mono B2.out.size)
  have T3 : Hid (TBox w2 w.heap.size x a (lenF l) c) := T2.out.below hb2
  have M3 : Hid (Boxed w2 (w.heap.size + 1) 3 (.int .i64 most)) := boxed_below M2.out hb2
  have R3 : Hid (Boxed w2 (w.heap.size + 1 + 1) 4 (.bool false)) := boxed_below R2.out hb2
  have z2 := hb2.size
  have HR2 : Hid (w2.ownsRow w1.heap.size 40 1 (.slice (some ⟨g, 0, none⟩) (nodesF l + 1) cap) (nodesF l + 1) vs) := hr2
  have HP2 : Hid (PathsV w2 ((placesT [] x l).map (·.1)) vs) := hp2
  clear hr2 hp2 hb2 B2 T2 M2 R2 x0 x1 x2
  obtain ⟨W3, hW3⟩ : ∃ W3, w2.alloc (.cells #[.slice (some ⟨g, 0, none⟩) (nodesF l + 1) cap] 45) = W3 := ⟨_, rfl⟩
  have hb3 : Below w2.heap.size w2 W3 := by rw [← hW3]; exact (Below.refl _ _).alloc (Nat.le_refl _) _
  have V3 : Hid (Boxed W3 w2.heap.size 45 (.slice (some ⟨g, 0, none⟩) (nodesF l + 1) cap)) := by show Boxed _ _ _ _; rw [← hW3]; exact Boxed.new _ _ _
  have B4 : Hid (Below w.heap.size w W3) := B3.out.trans (hb3.mono B3.out.size)
  have T4 : Hid (TBox W3 w.heap.size x a (lenF l) c) := T3.out.below hb3
  have M4 : Hid (Boxed W3 (w.heap.size + 1) 3 (.int .i64 most)) := boxed_below M3.out hb3
  have R4 : Hid (Boxed W3 (w.heap.size + 1 + 1) 4 (.bool false)) := boxed_below R3.out hb3
  have HR4 : Hid (W3.ownsRow w1.heap.size 40 1 (.slice (some ⟨g, 0, none⟩) (nodesF l + 1) cap) (nodesF l + 1) vs) := owns_below HR2.out hb3
  have HP4 : Hid (PathsV W3 ((placesT [] x l).map (·.1)) vs) := HP2.out.nvt (NvT.of_below hb3 (Nat.zero_le _))
  have z3 : W3.heap.size = w2.heap.size + 1 := by rw [← hW3]; simp
  have x0 := T4.out.c0; have x1 := T4.out.c1; have x2 := T4.out.c2
  clear B3 T3 M3 R3 HR2 HP2 hb3
  gi_wp2_with (rw [hW3])
  clear hW3
  refine ⟨trivial, ?_⟩
  refine (callsIn_wide.2 (all_any x l a c W3 (HT.out.below B4.out))).mono ?_
  rintro e w4 ⟨rfl, a', c', hA⟩
  have z4 := hA.low.size
  have HA : Hid (AllIs W3 w4 x a' c' l) := hA
  have B5 : Hid (Below w.heap.size w w4) := B4.out.trans (hA.low.mono B4.out.size)
  have T5 : Hid (TBox w4 w.heap.size x a (lenF l) c) := T4.out.below hA.low
  have M5 : Hid (Boxed w4 (w.heap.size + 1) 3 (.int .i64 most)) := boxed_below M4.out hA.low
  have R5 : Hid (Boxed w4 (w.heap.size + 1 + 1) 4 (.bool false)) := boxed_below R4.out hA.low
  have V5 : Hid (Boxed w4 w2.heap.size 45 (.slice (some ⟨g, 0, none⟩) (nodesF l + 1) cap)) := boxed_below V3.out hA.low
  have HR5 : Hid (w4.ownsRow w1.heap.size 40 1 (.slice (some ⟨g, 0, none⟩) (nodesF l + 1) cap) (nodesF l + 1) vs) := owns_below HR4.out hA.low
  have HP5 : Hid (PathsV w4 ((placesT [] x l).map (·.1)) vs) := HP4.out.nvt (NvT.of_below hA.low (Nat.zero_le _))
  clear hA B4 T4 M4 R4 V3 HR4 HP4 x0 x1 x2
  gi_wp2
  obtain ⟨W0, hW0⟩ : ∃ W0, ((w4.alloc (.cells #[.func (.func 46) #[] #[.pointer (some ⟨w2.heap.size + 1, 0, none⟩)]] 48)).alloc (.cells #[.int .i64 0] 3)).alloc (.cells #[.int .i64 0] 3) = W0 := ⟨_, rfl⟩
  have bS : Boxed W0 w4.heap.size 48 (seqV (w2.heap.size + 1)) := by rw [← hW0]; exact ((Boxed.new w4 48 _).alloc _).alloc _
  have bN : Boxed W0 (w4.heap.size + 1) 3 (.int .i64 0) := by
    rw [← hW0]
    have := (Boxed.new (w4.alloc (.cells #[.func (.func 46) #[] #[.pointer (some ⟨w2.heap.size + 1, 0, none⟩)]] 48)) 3 (.int .i64 0)).alloc (.cells #[.int .i64 0] 3)
    simpa using this
  have bI : Boxed W0 (w4.heap.size + 1 + 1) 3 (.int .i64 0) := by
    rw [← hW0]
    have := Boxed.new ((w4.alloc (.cells #[.func (.func 46) #[] #[.pointer (some ⟨w2.heap.size + 1, 0, none⟩)]] 48)).alloc (.cells #[.int .i64 0] 3)) 3 (.int .i64 0)
    simpa using this
  have hB0 : Below w4.heap.size w4 W0 := by rw [← hW0]; exact (((Below.refl _ w4).alloc (Nat.le_refl _) _).alloc (by simp) _).alloc (by simp; omega) _
  have hsz : W0.heap.size = w4.heap.size + 3 := by rw [← hW0]; simp
  rw [hW0]
  clear hW0
  have hM8 : (nodesF l + 1 + 1) * 8 ≤ 140737488355328 := Nat.le_trans (Nat.mul_le_mul_right 8 (show nodesF l + 2 ≤ 1048577 by omega)) (by decide)
  have hbox : TBox w4 (w2.heap.size + 1) x a' (lenF l) c' := by rw [← z3]; exact HA.out.box
  refine range_ownN (gf := 46) (lb := #[.pointer (some ⟨w2.heap.size + 1, 0, none⟩)]) rfl (enters_of Try.func46 (by kernel_rfl) rfl)
    (all1_seq w4 (nodesF l + 1) (w2.heap.size + 1) x l a' c' HA.out.own hbox hM8) hB0 (fun _ => rfl)
    (fun _ _ _ h hc => h.cl hc) (fun _ _ _ hc => KpA.of_cl hc) (fun _ _ _ _ h k => h.trans k)
    (fun pre W => GoesCore w4 (w2.heap.size + 1) (nodesF l + 1) pre W ∧ pre.length ≤ nodesF l + 1 ∧ (most < 1 ∨ (pre.length : Int) < most))
    (fun cc pre W => GoesCore w4 (w2.heap.size + 1) (nodesF l + 1) pre W ∧ cc = .exit 0 ∧ (pre.length : Int) = most ∧ 0 < pre.length)
    (fun _ _ _ h hm => ⟨h.1.mv hm (by omega), h.2⟩)
    (fun _ _ _ _ h hm => ⟨h.1.mv hm (by omega), h.2⟩) (fun _ _ h => h.2.1) ⟨⟨bN, bI, bS, hB0⟩, by simp, by simp; omega⟩
    (fun e a' V => ∃ Bx, TBox V Bx e.x e.a (lenF e.l) e.c ∧ a' = { tmps := #[.agg #[.string x.1, .int .i64 x.2, .slice a (lenF l) c], .int .i64 most, .pointer (some ⟨w.heap.size, 0, none⟩), .pointer (some ⟨w.heap.size + 1, 0, none⟩), .pointer (some ⟨w.heap.size + 1 + 1, 0, none⟩), .bool true, .pointer (some ⟨w2.heap.size, 0, none⟩), .pointer (some ⟨w4.heap.size, 0, none⟩), .pointer (some ⟨w4.heap.size + 1, 0, none⟩), .pointer (some ⟨w4.heap.size + 1 + 1, 0, none⟩), e.pv, .pointer (some ⟨Bx, 0, none⟩), undef, undef, undef, undef, .bool true, .bool true, .bool false, .agg #[.string x.1, .int .i64 x.2, .slice a (lenF l) c], .slice (some ⟨g, 0, none⟩) (nodesF l + 1) cap, .agg #[.string x.1, .int .i64 x.2, .slice a (lenF l) c], .func (.func 46) #[] #[.pointer (some ⟨w2.heap.size + 1, 0, none⟩)], .func (.func 46) #[] #[.pointer (some ⟨w2.heap.size + 1, 0, none⟩)], e.pv, .agg #[.string e.x.1, .int .i64 e.x.2, .slice e.a (lenF e.l) e.c], undef, undef, undef, undef, undef, undef, undef, undef, undef, undef, undef, undef, undef, undef, undef, undef, undef, undef, undef, undef, undef, undef, undef, undef, undef, undef, undef, undef, undef, undef, undef, undef, undef, undef, undef, undef, undef, undef, undef, undef, undef, undef, undef, undef, undef, undef, undef, undef, undef, undef, undef, undef, undef, undef, undef, undef, undef, undef, undef, undef, undef, undef, undef, undef, undef, undef, undef, undef, undef, undef, undef, undef, undef, undef, undef, undef, undef, undef, undef, undef, undef, undef, undef, undef, undef, undef, undef, undef, undef, undef, undef, undef, undef, undef], defers := [] })
    (fun _ _ _ _ ⟨Bx, h, k⟩ hc => ⟨Bx, h.cl hc, k⟩) ?assign ?body ?done ?stop
  case assign =>
    rintro pre e V K _ _ hK m
    simp only [El.encs]
    gi_wp2
    exact hK _ _ ((Below.refl _ V).alloc (Nat.le_refl _) _) ⟨V.heap.size, TBox.new V e.x e.a (lenF e.l) e.c, by simp⟩
  case body =>
    rintro pre ⟨q, ex, el, pv, ea, ec⟩ a' W ⟨r, hr⟩ ⟨hC, hpl, hm⟩ hF ⟨Bx, hx, rfl⟩ hlt hsp m
    have hq : (placesT [] x l)[pre.length]? = some (q, ex, el) := by obtain ⟨t, ht⟩ := hsp; rw [← ht]; simp [El.info]
    have HS : Hid (subT q (x, l) = some (ex, el)) := placesT_sub hq
    have hpq : ((placesT [] x l).map (·.1))[pre.length]? = some q := by rw [List.getElem?_map, hq]; rfl
    have HR6 : Hid (W.ownsRow w1.heap.size 40 1 (.slice (some ⟨g, 0, none⟩) (nodesF l + 1) cap) (nodesF l + 1) vs) := owns_below HR5.out hC.low
    obtain ⟨u, hu⟩ : ∃ u, vs[pre.length]? = some u := ⟨vs[pre.length]'(by rw [HP5.out.len, List.length_map, placesT, List.length_cons, places_len]; exact hlt), List.getElem?_eq_getElem _⟩
    obtain ⟨ua, uc, rfl, _, _, hU, hUb⟩ := ints_of_row (HP5.out.each _ _ _ hpq hu)
    have HU : Hid (IntsAt w4 ua q.length q) := hU
    obtain ⟨pa, pc, rfl, hpc1, hpc2, hP, hPb⟩ := ints_of_row (show W.ownsRow (W0.heap.size + 2) 3 1 pv q.length (intsV q) from hF.row)
    have hq9 : q.length ≤ 9223372036854775807 := by have e : maxLen = 9223372036854775807 := rfl; omega
    have HPb : Hid (∀ g o s, pa = some ⟨g, o, s⟩ → o = 0 ∧ s = none ∧ W0.heap.size + 2 ≤ g ∧ ∃ cur, W.heap[g]? = some (Obj.cells cur 3 (0, 0))) := hPb
    have HP : Hid (IntsAt W pa q.length q) := hP
    have HF : Hid (HandedA (W0.heap.size + 2) ⟨q, ex, el, .slice pa q.length pc, ea, ec⟩ W) := hF
    have HC : Hid (GoesCore w4 (w2.heap.size + 1) (nodesF l + 1) pre W) := hC
    have HX : Hid (TBox W Bx ex ea (lenF el) ec) := hx
    have HQ : Hid (vs[pre.length]? = some (.slice ua q.length uc)) := hu
    have cN := hC.n.cell
    have cV := (boxed_below V5.out hC.low).cell
    have cW : W.cell? ⟨g, pre.length, none⟩ = some (.slice ua q.length uc) := by have := owns_at HR6.out _ _ hu; rwa [Nat.zero_add] at this
    have hge : ¬ (nodesF l + 1 ≤ pre.length) := by omega
    clear hq hpq hU hP hPb hF hC hx hu hUb hsp
    dsimp only
    gi_wp2
    have HA0 : Hid (∀ k, PathBlk pa k → w4.heap.size + 3 ≤ k) := fun k ⟨o, s, e⟩ => by have := (HPb.out _ _ _ e).2.2.1; omega
    gi_loopw [12] (fun i wr => ∃ k : Nat, k ≤ q.length ∧ i = .int .i64 k ∧ Fr (PathBlk pa) W wr ∧ (∀ j (h : j < q.length), k ≤ j → ∃ gp cur, pa = some ⟨gp, 0, none⟩ ∧ wr.cell? ⟨gp, j, none⟩ = some (.int .i64 q[j]) ∧ wr.heap[gp]? = some (Obj.cells cur 3 (0, 0)))) (fun i _ => q.length - (intOf i).toNat)
    case atStart =>
      refine ⟨0, Nat.zero_le _, rfl, Fr.refl _ _, fun j hj _ => ?_⟩
      obtain ⟨gp, o, e, hc⟩ := HP.out.cells j hj
      obtain ⟨rfl, _, _, cur, hcur⟩ := HPb.out _ _ _ e
      exact ⟨gp, cur, e, by rw [← hc, Nat.zero_add], hcur⟩
    case round =>
      obtain ⟨k, hk, rfl, hFr, hcell⟩ := hrel
      have HFr : Hid (Fr (PathBlk pa) W wr) := hFr
      have HC2 : Hid (GoesCore w4 (w2.heap.size + 1) (nodesF l + 1) pre wr) := HC.out.fr hFr HA0.out
      have cN2 := HC2.out.n.cell
      have cV2 := (boxed_below V5.out HC2.out.low).cell
      have cW2 : wr.cell? ⟨g, pre.length, none⟩ = some (.slice ua q.length uc) := by have := owns_at (owns_below HR5.out HC2.out.low) _ _ HQ.out; rwa [Nat.zero_add] at this
      have HCell : Hid (∀ j (h : j < q.length), k ≤ j → ∃ gp cur, pa = some ⟨gp, 0, none⟩ ∧ wr.cell? ⟨gp, j, none⟩ = some (.int .i64 q[j]) ∧ wr.heap[gp]? = some (Obj.cells cur 3 (0, 0))) := hcell
      clear hFr hcell cN cV cW
      by_cases hlt2 : k < q.length
      · obtain ⟨gp, cur, rfl, p0, hg⟩ := HCell.out k hlt2 (Nat.le_refl _)
        obtain ⟨ub, uo, rfl, u0⟩ := HU.out.cells k hlt2
        have u1 := below_cell HC2.out.low _ _ u0
        obtain ⟨s, hs⟩ : ∃ s, q[k] = s := ⟨_, rfl⟩
        rw [hs] at p0 u1
        have HG : Hid (wr.heap[gp]? = some (Obj.cells cur 3 (0, 0))) := hg
        have f0 := row_frozen (i := k) hg
        clear hg u0 hs
        have hne := later_some wr
        have d0 := later_cell p0
        have d1 := later_cell u1
        have d2 := later_cell cN2
        have d3 := later_cell cV2
        have d4 := later_cell cW2
        have hk0 : (0 : Int) ≤ (k : Int) := by omega
        have hkn : (k : Int) < (q.length : Int) := by omega
        have hp0 : (0 : Int) ≤ (pre.length : Int) := by omega
        have hpn : (pre.length : Int) < (nodesF l : Int) + 1 := by omega
        gi_wp2_with fail
        refine wpIn_region_later (by kernel_rfl) (by kernel_rfl) (by kernel_rfl) (by rintro ⟨_, _, h⟩; exact h) ?_
        repeat (go_big_quiet_step (fail))
        refine wpQuiet_nil ?_
        intro _ hw'
        obtain ⟨b3, hw''⟩ := hw'
        subst hw''
        have hG3 : b3.now.heap[gp]? = some (Obj.cells cur 3 (0, 0)) := (b3.below.block gp (Array.getElem?_eq_some_iff.1 HG.out).1).trans HG.out
        have p3 := d0 b3
        have f3 := row_frozen (i := k) hG3
        have HG3 : Hid (b3.now.heap[gp]? = some (Obj.cells cur 3 (0, 0))) := hG3
        clear d0 d1 d2 d3 d4 hne hG3 p0 u1 cN2 cV2 cW2
        gi_wp2
        refine ⟨⟨k + 1, by omega, by go_num, (HFr.out.trans (Fr.of_below b3.below)).trans (Fr.set3 ⟨0, none, rfl⟩ k _), fun j hj hkj => ?_⟩, by simp [intOf]; omega⟩
        obtain ⟨gp', cur', e, hc, hb'⟩ := HCell.out j hj (by omega)
        cases e
        refine ⟨gp, _, rfl, ?_, block_set HG3.out _⟩
        rw [World.cell?_setCell_other _ _ _ _ (fun e => by cases e; omega)]
        exact later_cell hc b3
      · have bT2 := T5.out.below HC2.out.low
        have x0 := bT2.c0; have x1 := bT2.c1; have x2 := bT2.c2
        obtain rfl : k = q.length := by omega
        clear bT2 HCell
        gi_wp2_with fail
        have hk0 : (0 : Int) ≤ (pre.length : Int) := by omega
        have hkn : (pre.length : Int) < (nodesF l : Int) + 1 := by omega
        refine wpIn_mono (Q := fun e a' w' => e = .normal ∧ ∃ (By : Nat) (a5 : Option Addr) (c5 : Nat) (t61 t62 t63 t64 t65 t66 t67 t68 t69 : Value), a' = { tmps := #[.agg #[.string x.1, .int .i64 x.2, .slice a (lenF l) c], .int .i64 most, .pointer (some ⟨w.heap.size, 0, none⟩), .pointer (some ⟨w.heap.size + 1, 0, none⟩), .pointer (some ⟨w.heap.size + 1 + 1, 0, none⟩), .bool true, .pointer (some ⟨w2.heap.size, 0, none⟩), .pointer (some ⟨w4.heap.size, 0, none⟩), .pointer (some ⟨w4.heap.size + 1, 0, none⟩), .pointer (some ⟨w4.heap.size + 1 + 1, 0, none⟩), .slice pa q.length pc, .pointer (some ⟨Bx, 0, none⟩), .int .i64 (q.length : Int), .pointer (some ⟨By, 0, none⟩), .int .i64 0, undef, .bool true, .bool true, .bool false, .agg #[.string x.1, .int .i64 x.2, .slice a (lenF l) c], .slice (some ⟨g, 0, none⟩) (nodesF l + 1) cap, .agg #[.string x.1, .int .i64 x.2, .slice a (lenF l) c], .func (.func 46) #[] #[.pointer (some ⟨w2.heap.size + 1, 0, none⟩)], .func (.func 46) #[] #[.pointer (some ⟨w2.heap.size + 1, 0, none⟩)], .slice pa q.length pc, .agg #[.string ex.1, .int .i64 ex.2, .slice ea (lenF el) ec], .int .i64 (pre.length : Int), .slice (some ⟨g, 0, none⟩) (nodesF l + 1) cap, .int .i64 ((nodesF l : Int) + 1), .bool (decide ((nodesF l : Int) + 1 ≤ (pre.length : Int))), .bool (decide ((nodesF l : Int) + 1 ≤ (pre.length : Int))), .slice pa q.length pc, .int .i64 (q.length : Int), .slice (some ⟨g, 0, none⟩) (nodesF l + 1) cap, .int .i64 (pre.length : Int), .pointer (some ⟨g, pre.length, none⟩), .slice ua q.length uc, .int .i64 (q.length : Int), .bool false, .bool (decide ((nodesF l : Int) + 1 ≤ (pre.length : Int))), .int .i64 (q.length : Int), .slice pa q.length pc, .int .i64 (q.length : Int), .bool false, u44, u45, u46, u47, u48, u49, u50, u51, u52, u53, u54, u55, u56, u57, u58, u59, u60, t61, t62, t63, t64, t65, t66, t67, t68, t69, undef, undef, undef, undef, undef, undef, undef, undef, undef, undef, undef, undef, undef, undef, undef, undef, undef, undef, undef, undef, undef, undef, undef, undef, undef, undef, undef, undef, undef, undef, undef, undef, undef, undef, undef, undef, undef, undef, undef, undef, undef, undef, undef, undef, undef, undef, undef, undef, undef, undef], defers := [] } ∧ TBox w' By ex a5 (lenF el) c5 ∧ TmAt w' ex a5 c5 el ∧ Below wr.heap.size wr w') ?first ?rest
        case first =>
          refine wpIn_region_held (fun w' => Below wr.heap.size wr w') (by kernel_rfl) (by kernel_rfl) (by rintro ⟨_, _, h, _⟩; cases h) ((Below.refl _ _).drew) ?_
          intro hS
          have hS0 := hS
          refine wpAnyH_take (i := 0) (v := .agg #[.string x.1, .int .i64 x.2, .slice a (lenF l) c]) rfl (by kernel_rfl) (by kernel_rfl) (by kernel_rfl) (fun _ _ _ h => by cases h.1) (Or.inl ⟨by rfl, fun w' hw' => ?_⟩) hS ?_
          · have y0 := below_cell hw' _ _ x0; have y1 := below_cell hw' _ _ x1; have y2 := below_cell hw' _ _ x2; go_simp
          simp only [Act.put, List.getElem_toArray, List.getElem_cons_zero, List.setIfInBounds_toArray, List.set_cons_zero, List.set_cons_succ]
          refine wpAnyH_take (i := 1) (v := .slice (some ⟨g, 0, none⟩) (nodesF l + 1) cap) rfl (by kernel_rfl) (by kernel_rfl) (by kernel_rfl) (fun _ _ _ h => by cases h.1) (Or.inl ⟨by rfl, fun w' hw' => ?_⟩) hS ?_
          · have y0 := below_cell hw' _ _ cV2; go_simp
          simp only [Act.put, List.getElem_toArray, List.getElem_cons_zero, List.getElem_cons_succ, List.setIfInBounds_toArray, List.set_cons_zero, List.set_cons_succ]
          refine wpAnyH_take (i := 2) (v := .int .i64 (pre.length : Int)) rfl (by kernel_rfl) (by kernel_rfl) (by kernel_rfl) (fun _ _ _ h => by cases h.1) (Or.inl ⟨by rfl, fun w' hw' => ?_⟩) hS ?_
          · have y0 := below_cell hw' _ _ cN2; go_simp
          simp only [Act.put, List.getElem_toArray, List.getElem_cons_zero, List.getElem_cons_succ, List.setIfInBounds_toArray, List.set_cons_zero, List.set_cons_succ]
          refine wpAnyH_take (i := 3) (v := .pointer (some ⟨g, pre.length, none⟩)) rfl (by kernel_rfl) (by kernel_rfl) (by kernel_rfl) (fun _ _ _ h => by cases h.1) (Or.inl ⟨by rfl, fun w' hw' => ?_⟩) hS ?_
          · go_simp
          simp only [Act.put, List.getElem_toArray, List.getElem_cons_zero, List.getElem_cons_succ, List.setIfInBounds_toArray, List.set_cons_zero, List.set_cons_succ]
          refine wpAnyH_take (i := 4) (v := .slice ua q.length uc) rfl (by kernel_rfl) (by kernel_rfl) (by kernel_rfl) (fun _ _ _ h => by cases h.1) (Or.inl ⟨by rfl, fun w' hw' => ?_⟩) hS ?_
          · have y0 := below_cell hw' _ _ cW2; go_simp
          simp only [Act.put, List.getElem_toArray, List.getElem_cons_zero, List.getElem_cons_succ, List.setIfInBounds_toArray, List.set_cons_zero, List.set_cons_succ]
          have hTW : TmAt wr x a c l := HT.out.below (B5.out.trans (HC2.out.low.mono B5.out.size))
          have hUW : IntsAt wr ua q.length q := HU.out.below HC2.out.low
          have hCall : ∀ V, Below wr.heap.size wr V → Calls Try.prog 28 #[.agg #[.string x.1, .int .i64 x.2, .slice a (lenF l) c], .slice ua q.length uc] V fun e w' => ∃ a5 c5, e = .returned (.tuple #[.agg #[.string ex.1, .int .i64 ex.2, .slice a5 (lenF el) c5], .int .i64 0]) ∧ OwnTm false (fun q => V.heap.size ≤ q) w' ex a5 c5 el ∧ Below V.heap.size V w' := fun V hV => by
            have h := rat_own q (x, l) a c ua q.length uc V (hTW.below hV) (hUW.below hV) hq9
            rw [HS.out] at h
            exact h
          have HCall : Hid (∀ V, Below wr.heap.size wr V → Calls Try.prog 28 #[.agg #[.string x.1, .int .i64 x.2, .slice a (lenF l) c], .slice ua q.length uc] V fun e w' => ∃ a5 c5, e = .returned (.tuple #[.agg #[.string ex.1, .int .i64 ex.2, .slice a5 (lenF el) c5], .int .i64 0]) ∧ OwnTm false (fun q => V.heap.size ≤ q) w' ex a5 c5 el ∧ Below V.heap.size V w') := hCall
          clear hCall hTW hUW
          refine wpAnyH_ready (rs := [5, 9]) (by kernel_rfl) (by simp) ?_
          refine AllReadyH.cons rfl (fun K hK => ?_) ?_
          · go_simp
            refine (HCall.out _ hS).mono ?_
            rintro e w5 ⟨a5, c5, rfl, h5, hb5⟩
            dsimp only
            refine hK.out _ _ (hS.trans hb5) (fun hS => ?_)
            clear hK K
            refine wpAnyH_take (i := 6) (v := .tuple #[.agg #[.string ex.1, .int .i64 ex.2, .slice a5 (lenF el) c5], .int .i64 0]) rfl (by kernel_rfl) (by kernel_rfl) (by kernel_rfl) (fun _ _ _ h => by cases h.1) (Or.inl ⟨by rfl, fun w' hw' => ?_⟩) hS ?_
            · go_simp
            simp only [Act.put, List.getElem_toArray, List.getElem_cons_zero, List.getElem_cons_succ, List.setIfInBounds_toArray, List.set_cons_zero, List.set_cons_succ]
            refine wpAnyH_take (i := 7) (v := .agg #[.string ex.1, .int .i64 ex.2, .slice a5 (lenF el) c5]) rfl (by kernel_rfl) (by kernel_rfl) (by kernel_rfl) (fun _ _ _ h => by cases h.1) (Or.inl ⟨by rfl, fun w' hw' => ?_⟩) hS ?_
            · go_simp
            simp only [Act.put, List.getElem_toArray, List.getElem_cons_zero, List.getElem_cons_succ, List.setIfInBounds_toArray, List.set_cons_zero, List.set_cons_succ]
            refine wpAnyH_take (i := 8) (v := .int .i64 0) rfl (by kernel_rfl) (by kernel_rfl) (by kernel_rfl) (fun _ _ _ h => by cases h.1) (Or.inl ⟨by rfl, fun w' hw' => ?_⟩) hS ?_
            · go_simp
            simp only [Act.put, List.getElem_toArray, List.getElem_cons_zero, List.getElem_cons_succ, List.setIfInBounds_toArray, List.set_cons_zero, List.set_cons_succ]
            refine wpAnyH_ready (rs := [9]) (by kernel_rfl) (by simp) ?_
            refine AllReadyH.cons rfl (fun K hK => ?_) AllReadyH.nil
            go_simp
            refine hK.out _ _ (hS.alloc hS.size _) (fun hS => ?_)
            clear hK K
            refine wpAnyH_ready (rs := [10]) (by kernel_rfl) (by simp) ?_
            refine AllReadyH.cons rfl (fun K hK => ?_) AllReadyH.nil
            go_simp
            refine hK.out _ _ ((hS0.trans hb5).alloc (hS0.trans hb5).size _) (fun hS => ?_)
            clear hK K
            refine wpAnyH_take (i := 11) (v := .int .i64 0) rfl (by kernel_rfl) (by kernel_rfl) (by kernel_rfl) (fun _ _ _ h => by cases h.1) (Or.inl ⟨by rfl, fun w' hw' => ?_⟩) hS ?_
            · go_simp
            simp only [Act.put, List.getElem_toArray, List.getElem_cons_zero, List.getElem_cons_succ, List.setIfInBounds_toArray, List.set_cons_zero, List.set_cons_succ]
            refine wpAnyH_done (by kernel_rfl) ?_ _
            exact ⟨rfl, w5.heap.size, a5, c5, _, _, _, _, _, _, _, _, _, rfl, TBox.new w5 ex a5 (lenF el) c5, h5.tm.below ((Below.refl _ _).alloc (Nat.le_refl _) _), hS⟩
          · refine AllReadyH.cons rfl (fun K hK => ?_) AllReadyH.nil
            go_simp
            have hbA : Below wr.heap.size wr (wr.alloc (.cells #[.string ⟨#[]⟩, .int .i64 0, .slice none 0 0] 26)).drew := ((Below.refl _ wr).alloc (Nat.le_refl _) _).drew
            have hZ : XBox (wr.alloc (.cells #[.string ⟨#[]⟩, .int .i64 0, .slice none 0 0] 26)).drew wr.heap.size (⟨#[]⟩, 0) (.slice none 0 0) := heap_alloc_new wr _
            obtain ⟨WA, hWA⟩ : ∃ WA, (wr.alloc (.cells #[.string ⟨#[]⟩, .int .i64 0, .slice none 0 0] 26)).drew = WA := ⟨_, rfl⟩
            have hzA : wr.heap.size < WA.heap.size := by rw [← hWA]; show _ < (wr.alloc _).heap.size; simp
            rw [hWA] at hbA hZ ⊢
            clear hWA
            refine hK.out _ _ hbA (fun hS => ?_)
            clear hK K
            refine wpAnyH_ready (rs := [5]) (by kernel_rfl) (by simp) ?_
            refine AllReadyH.cons rfl (fun K hK => ?_) AllReadyH.nil
            go_simp
            refine (HCall.out _ hS).mono ?_
            rintro e w5 ⟨a5, c5, rfl, h5, hb5⟩
            dsimp only
            have hS5 := hS.trans (hb5.mono hS.size)
            refine hK.out _ _ hS5 (fun hS => ?_)
            clear hK K
            refine wpAnyH_take (i := 6) (v := .tuple #[.agg #[.string ex.1, .int .i64 ex.2, .slice a5 (lenF el) c5], .int .i64 0]) rfl (by kernel_rfl) (by kernel_rfl) (by kernel_rfl) (fun _ _ _ h => by cases h.1) (Or.inl ⟨by rfl, fun w' hw' => ?_⟩) hS ?_
            · go_simp
            simp only [Act.put, List.getElem_toArray, List.getElem_cons_zero, List.getElem_cons_succ, List.setIfInBounds_toArray, List.set_cons_zero, List.set_cons_succ]
            refine wpAnyH_take (i := 7) (v := .agg #[.string ex.1, .int .i64 ex.2, .slice a5 (lenF el) c5]) rfl (by kernel_rfl) (by kernel_rfl) (by kernel_rfl) (fun _ _ _ h => by cases h.1) (Or.inl ⟨by rfl, fun w' hw' => ?_⟩) hS ?_
            · go_simp
            simp only [Act.put, List.getElem_toArray, List.getElem_cons_zero, List.getElem_cons_succ, List.setIfInBounds_toArray, List.set_cons_zero, List.set_cons_succ]
            refine wpAnyH_take (i := 8) (v := .int .i64 0) rfl (by kernel_rfl) (by kernel_rfl) (by kernel_rfl) (fun _ _ _ h => by cases h.1) (Or.inl ⟨by rfl, fun w' hw' => ?_⟩) hS ?_
            · go_simp
            simp only [Act.put, List.getElem_toArray, List.getElem_cons_zero, List.getElem_cons_succ, List.setIfInBounds_toArray, List.set_cons_zero, List.set_cons_succ]
            have hZ5 := hZ.below hb5
            have z0 := hZ5.c0; have z1 := hZ5.c1; have z2 := hZ5.c2
            have f0 := hZ5.f (k := 0); have f1 := hZ5.f (k := 1); have f2 := hZ5.f (k := 2)
            refine wpAnyH_ready (rs := [10]) (by kernel_rfl) (by simp) ?_
            refine AllReadyH.cons rfl (fun K hK => ?_) AllReadyH.nil
            go_simp
            refine hK.out _ _ (sets_below hS (Nat.le_refl _) _ _ _) (fun hS => ?_)
            clear hK K
            refine wpAnyH_take (i := 11) (v := .int .i64 0) rfl (by kernel_rfl) (by kernel_rfl) (by kernel_rfl) (fun _ _ _ h => by cases h.1) (Or.inl ⟨by rfl, fun w' hw' => ?_⟩) hS ?_
            · go_simp
            simp only [Act.put, List.getElem_toArray, List.getElem_cons_zero, List.getElem_cons_succ, List.setIfInBounds_toArray, List.set_cons_zero, List.set_cons_succ]
            refine wpAnyH_done (by kernel_rfl) ?_ _
            exact ⟨rfl, wr.heap.size, a5, c5, _, _, _, _, _, _, _, _, _, rfl, hZ5.all (x := ex) _, (h5.keep (fun q hq _ => sets_far (by have : WA.heap.size ≤ q := hq; omega) _ _ _)).tm, hS⟩
        case rest =>
          rintro _ _ w5 ⟨rfl, By, a5, c5, t61, t62, t63, t64, t65, t66, t67, t68, t69, rfl, hY, hY2, hb5⟩
          have HC5 : Hid (GoesCore w4 (w2.heap.size + 1) (nodesF l + 1) pre w5) := HC2.out.fr (A := fun _ => False) (Fr.of_below hb5) (fun _ h => h.elim)
          have hK2 : Keeps26 W wr := HFr.out.keeps26 (fun g o s e => (HPb.out g o s e).2.2.2)
          have hK5 : Keeps26 W w5 := hK2.trans (Keeps26.of_below hb5)
          have hX5 : TBox w5 Bx ex ea (lenF el) ec := hK5 _ _ _ HX.out
          have hE5 : TmAt w5 ex ea ec el := HF.out.own.in26 hK5
          have HF5 : Hid (Fr (PathBlk pa) W w5) := HFr.out.trans (Fr.of_below hb5)
          have x0 := hX5.c0; have x1 := hX5.c1; have x2 := hX5.c2
          have y0 := hY.c0; have y1 := hY.c1; have y2 := hY.c2
          clear hk0 hkn cN2 cV2 cW2 hY hX5 hK2 hK5 hb5
          dsimp only [Exit.then]
          gi_wp2_with fail
          refine ⟨trivial, (fun h => by cases h), ?_⟩
          refine (CallsIn.inRound _ (callsIn_wide.2 (exact_any ex el ea a5 ec c5 w5 hE5 hY2))).mono ?_
          rintro e w6 ⟨rfl, hb6⟩
          have HC6 : Hid (GoesCore w4 (w2.heap.size + 1) (nodesF l + 1) pre w6) := HC5.out.fr (A := fun _ => False) (Fr.of_below hb6) (fun _ h => h.elim)
          have HF6 : Hid (Fr (PathBlk pa) W w6) := HF5.out.trans (Fr.of_below hb6)
          have hr6 : w6.heap[W0.heap.size + 1]? = some (.loop r) := (HF6.out.same _ (Array.getElem?_eq_some_iff.1 hr).1 (fun ⟨o, s, e⟩ => by
            obtain ⟨_, _, _, cur, hc⟩ := HPb.out _ _ _ e
            rw [hr] at hc
            cases hc)).trans hr
          have cN6 := HC6.out.n.cell
          have cM6 := (boxed_below M5.out HC6.out.low).cell
          have fN6 := HC6.out.n.frozen
          clear hb6 x0 x1 x2 y0 y1 y2 HC5 HF5 hE5 hY2
          by_cases hp : pre.length = 0
          · obtain rfl : pre = [] := List.length_eq_zero_iff.1 hp
            have cS6 := HC6.out.seq.cell
            unfold seqV at cS6
            gi_wp2
            have hbI : Boxed w6 (w4.heap.size + 1 + 1) 3 (.int .i64 0) := HC6.out.inner
            have hs6 : w4.heap.size + 3 + 1 < w6.heap.size := by have := (Array.getElem?_eq_some_iff.1 hr6).1; omega
            refine range_inN (l₀ := W0.heap.size + 1) (r₀ := r) (B0 := W0.heap.size) hr6 (by omega) (by omega) (gf := 46) (lb := #[.pointer (some ⟨w2.heap.size + 1, 0, none⟩)]) rfl (enters_of Try.func46 (by kernel_rfl) rfl)
              (all1_seq w4 (nodesF l + 1) (w2.heap.size + 1) x l a' c' HA.out.own hbox hM8) HC6.out.low (fun _ => rfl)
              (fun _ _ _ h hc => h.cl hc) (fun _ _ _ hc => KpA.of_cl hc) (fun _ _ _ _ h k => h.trans k)
              (fun pre' V => Boxed V (w4.heap.size + 1 + 1) 3 (.int .i64 (pre'.length : Int)) ∧ Fr (fun q => q = w4.heap.size + 1 + 1) w6 V ∧ pre'.length ≤ nodesF l + 1)
              (fun _ _ _ => False)
              (fun _ _ _ h hm => ⟨boxed_mv h.1 hm (by omega), h.2.1.mv hm, h.2.2⟩) (fun _ _ _ _ h _ => h) (fun _ _ h => h.2.2) ⟨hbI, Fr.refl _ _, by simp⟩
              (fun y a'' _ => a'' = { tmps := #[.agg #[.string x.1, .int .i64 x.2, .slice a (lenF l) c], .int .i64 most, .pointer (some ⟨w.heap.size, 0, none⟩), .pointer (some ⟨w.heap.size + 1, 0, none⟩), .pointer (some ⟨w.heap.size + 1 + 1, 0, none⟩), .bool true, .pointer (some ⟨w2.heap.size, 0, none⟩), .pointer (some ⟨w4.heap.size, 0, none⟩), .pointer (some ⟨w4.heap.size + 1, 0, none⟩), .pointer (some ⟨w4.heap.size + 1 + 1, 0, none⟩), .slice pa q.length pc, .pointer (some ⟨Bx, 0, none⟩), .int .i64 (q.length : Int), .pointer (some ⟨By, 0, none⟩), .int .i64 0, .bool true, .bool true, .bool true, .bool false, .agg #[.string x.1, .int .i64 x.2, .slice a (lenF l) c], .slice (some ⟨g, 0, none⟩) (nodesF l + 1) cap, .agg #[.string x.1, .int .i64 x.2, .slice a (lenF l) c], .func (.func 46) #[] #[.pointer (some ⟨w2.heap.size + 1, 0, none⟩)], .func (.func 46) #[] #[.pointer (some ⟨w2.heap.size + 1, 0, none⟩)], .slice pa q.length pc, .agg #[.string ex.1, .int .i64 ex.2, .slice ea (lenF el) ec], .int .i64 0, .slice (some ⟨g, 0, none⟩) (nodesF l + 1) cap, .int .i64 ((nodesF l : Int) + 1), .bool (decide ((nodesF l : Int) + 1 ≤ 0)), .bool (decide ((nodesF l : Int) + 1 ≤ 0)), .slice pa q.length pc, .int .i64 (q.length : Int), .slice (some ⟨g, 0, none⟩) (nodesF l + 1) cap, .int .i64 0, .pointer (some ⟨g, 0, none⟩), .slice ua q.length uc, .int .i64 (q.length : Int), .bool false, .bool (decide ((nodesF l : Int) + 1 ≤ 0)), .int .i64 (q.length : Int), .slice pa q.length pc, .int .i64 (q.length : Int), .bool false, u44, u45, u46, u47, u48, u49, u50, u51, u52, u53, u54, u55, u56, u57, u58, u59, u60, t61, t62, t63, t64, t65, t66, t67, t68, t69, .agg #[.string ex.1, .int .i64 ex.2, .slice ea (lenF el) ec], .agg #[.string ex.1, .int .i64 ex.2, .slice a5 (lenF el) c5], .bool true, .bool true, .bool false, .int .i64 0, .bool true, .func (.func 46) #[] #[.pointer (some ⟨w2.heap.size + 1, 0, none⟩)], y.pv, .agg #[.string y.x.1, .int .i64 y.x.2, .slice y.a (lenF y.l) y.c], undef, undef, undef, undef, undef, undef, undef, undef, undef, undef, undef, undef, undef, undef, undef, undef, undef, undef, undef, undef, undef, undef, undef, undef, undef, undef, undef, undef, undef, undef, undef, undef, undef, undef, undef, undef, undef, undef, undef, undef], defers := [] })
              (fun _ _ _ _ h _ => h) ?assign2 ?body2 ?done2 ?stop2
            case assign2 =>
              rintro pre' y V K' _ _ hK m'
              simp only [El.encs]
              gi_wp2
              exact hK _ _ (Below.refl _ _) (by simp)
            case body2 =>
              rintro pre' y a'' V _ ⟨bi, hFr, hl⟩ hFy rfl hlt' _ m'
              have ci := bi.cell
              have fi := bi.frozen
              gi_wp2
              refine ⟨(KeepsOthers.setCell _ _ _).from _, KpA.set bi (by omega) _, ?_, hFr.trans (Fr.set3 (A := fun q => q = w4.heap.size + 1 + 1) rfl 0 _), by simp; omega⟩
              rw [List.length_append, List.length_singleton, Int.natCast_add]
              exact bi.set _
            case done2 =>
              rintro ys V hS ⟨bi, hFr, _⟩ hK
              have hys : ys.length = nodesF l + 1 := by
                have := congrArg List.length hS
                rw [List.length_map, placesT, List.length_cons, places_len] at this
                exact this
              rw [hys] at bi
              have bI7 : Boxed V (w4.heap.size + 1 + 1) 3 (.int .i64 (innerOf (nodesF l + 1) (([] : List El).length + 1))) := bi
              have hF7 : Fr (fun q => PathBlk pa q ∨ q = w4.heap.size + 1 + 1) W V := (HF6.out.mono (fun _ h => .inl h)).trans (hFr.mono (fun _ h => .inr h))
              obtain ⟨e1, e2, e3⟩ := goes_end (B0 := W0.heap.size) (q := q) (ex := ex) (el := el) (ea := ea) (pc := pc) (ec := ec) HC.out (by omega) HPb.out hF7 bI7
              have bN7 : Boxed V (w4.heap.size + 1) 3 (.int .i64 0) := (hFr.same _ (by omega) (by omega)).trans HC6.out.n
              have cN7 := bN7.cell
              have fN7 := bN7.frozen
              have cM7 : V.cell? ⟨w.heap.size + 1, 0, none⟩ = some (.int .i64 most) := by
                have := boxed_below M5.out HC6.out.low
                exact Boxed.cell ((hFr.same _ this.lt (by have := M5.out.lt; omega)).trans this)
              clear hS hFr hF7 bi bI7 hK hys cN6 cM6 fN6 cS6
              by_cases hm1 : (1 : Int) = most
              · have hm2 : ((1 : Int) == most) = true := by simp [hm1]
                subst hm1
                gi_wp2
                exact ⟨e3, e1, rfl, by simp, by simp⟩
              · have hm2 : ((1 : Int) == most) = false := by simp [hm1]
                have hm3 : most < 1 ∨ (1 : Int) < most := by omega
                gi_wp2
                exact ⟨e3, e2, e1, by simp, by simpa using hm3⟩
            case stop2 =>
              rintro _ _ _ _ h _
              exact h.elim
          · have hp' : ((pre.length : Int) == 0) = false := beq_eq_false_iff_ne.2 (by omega)
            have bI6 : Boxed w6 (w4.heap.size + 1 + 1) 3 (.int .i64 (innerOf (nodesF l + 1) (pre.length + 1))) := by
              have := HC6.out.inner
              unfold innerOf at this ⊢
              rw [if_neg hp] at this
              rw [if_neg (by omega)]
              exact this
            obtain ⟨e1, e2, e3⟩ := goes_end (B0 := W0.heap.size) (q := q) (ex := ex) (el := el) (ea := ea) (pc := pc) (ec := ec) HC.out (by omega) HPb.out (HF6.out.mono (fun _ h => .inl h)) bI6
            by_cases hm1 : (pre.length : Int) + 1 = most
            · have hm2 : ((pre.length : Int) + 1 == most) = true := by simp [hm1]
              rw [hm1] at e1 e3
              gi_wp2
              exact ⟨e3, e1, rfl, by simp; omega, by simp⟩
            · have hm2 : ((pre.length : Int) + 1 == most) = false := by simp [hm1]
              gi_wp2
              exact ⟨e3, e2, e1, by simp; omega, by simp; omega⟩
  case done =>
    rintro ys V hS ⟨hC, _, hm⟩ hK
    have hlen : ys.length = nodesF l + 1 := by
      have := congrArg List.length hS
      rw [List.length_map, placesT, List.length_cons, places_len] at this
      exact this
    have bN := hC.n
    have bI := hC.inner
    rw [hlen] at bN bI hm
    rw [innerOf, if_neg (by omega)] at bI
    have bM : Boxed V (w.heap.size + 1) 3 (.int .i64 most) := boxed_below M5.out hC.low
    have bR : Boxed V (w.heap.size + 1 + 1) 4 (.bool false) := boxed_below R5.out hC.low
    have bV : Boxed V w2.heap.size 45 (.slice (some ⟨g, 0, none⟩) (nodesF l + 1) cap) := boxed_below V5.out hC.low
    have cN := bN.cell; have cI := bI.cell; have cM := bM.cell; have cV := bV.cell; have cR := bR.cell; have fR := bR.frozen
    have hlow : Below w.heap.size w V := B5.out.trans (hC.low.mono B5.out.size)
    have hKs := (Array.getElem?_eq_some_iff.1 hK).1
    have z5 := B5.out.size
    have hz0 : w.heap.size ≤ W0.heap.size := by omega
    clear hsz
    clear hS hlen HP5 HR5 HA hC
    rcases hm with hm | hm
    · have hd : ¬ 1 ≤ most := by omega
      gi_wp2
      have hK2 := (KeepsOthers.setCell V ⟨w.heap.size + 1 + 1, 0, none⟩ (.bool true)).same _ _ hK rfl
      refine ⟨by simp, .inl ⟨_, _, rfl, run_takeDeferred hK2, ?_⟩⟩
      exact ⟨_, results_bool rfl rfl (boxed_putObj (bR.set _) hK2 rfl _), rfl, (hlow.setCell (p := ⟨w.heap.size + 1 + 1, 0, none⟩) (by show _ ≤ w.heap.size + 1 + 1; omega) _).trans (below_putObj _ (by omega) _)⟩
    · have hd : 1 ≤ most := by omega
      have hd2 : ¬ most < (nodesF l : Int) + 1 := by omega
      gi_wp2
      have hK2 := (KeepsOthers.setCell V ⟨w.heap.size + 1 + 1, 0, none⟩ (.bool true)).same _ _ hK rfl
      refine ⟨by simp, .inl ⟨_, _, rfl, run_takeDeferred hK2, ?_⟩⟩
      exact ⟨_, results_bool rfl rfl (boxed_putObj (bR.set _) hK2 rfl _), rfl, (hlow.setCell (p := ⟨w.heap.size + 1 + 1, 0, none⟩) (by show _ ≤ w.heap.size + 1 + 1; omega) _).trans (below_putObj _ (by omega) _)⟩
  case stop =>
    rintro cc pre V ⟨tl, htl⟩ ⟨hC, rfl, hm, hpos⟩ hK
    have hlen : pre.length ≤ nodesF l + 1 := by
      have := congrArg List.length htl
      rw [List.length_append, List.length_map, placesT, List.length_cons, places_len] at this
      omega
    have bN := hC.n
    have bI := hC.inner
    rw [hm] at bN
    rw [innerOf, if_neg (by omega)] at bI
    have bM : Boxed V (w.heap.size + 1) 3 (.int .i64 most) := boxed_below M5.out hC.low
    have bR : Boxed V (w.heap.size + 1 + 1) 4 (.bool false) := boxed_below R5.out hC.low
    have bV : Boxed V w2.heap.size 45 (.slice (some ⟨g, 0, none⟩) (nodesF l + 1) cap) := boxed_below V5.out hC.low
    have cN := bN.cell; have cI := bI.cell; have cM := bM.cell; have cV := bV.cell; have cR := bR.cell; have fR := bR.frozen
    have hlow : Below w.heap.size w V := B5.out.trans (hC.low.mono B5.out.size)
    have hKs := (Array.getElem?_eq_some_iff.1 hK).1
    have z5 := B5.out.size
    have hz0 : w.heap.size ≤ W0.heap.size := by omega
    clear hsz
    have hd : 1 ≤ most := by omega
    clear htl HP5 HR5 HA hC
    by_cases hd2 : most < (nodesF l : Int) + 1
    · gi_wp2
      have hK2 := (KeepsOthers.setCell V ⟨w.heap.size + 1 + 1, 0, none⟩ (.bool true)).same _ _ hK rfl
      refine ⟨by simp, .inl ⟨_, _, rfl, run_takeDeferred hK2, ?_⟩⟩
      exact ⟨_, results_bool rfl rfl (boxed_putObj (bR.set _) hK2 rfl _), rfl, (hlow.setCell (p := ⟨w.heap.size + 1 + 1, 0, none⟩) (by show _ ≤ w.heap.size + 1 + 1; omega) _).trans (below_putObj _ (by omega) _)⟩
    · have hd3 : most = (nodesF l : Int) + 1 := by omega
      have hd4 : (most == (nodesF l : Int) + 1) = true := by simp [hd3]
      gi_wp2
      have hK2 := (KeepsOthers.setCell V ⟨w.heap.size + 1 + 1, 0, none⟩ (.bool true)).same _ _ hK rfl
      refine ⟨by simp, .inl ⟨_, _, rfl, run_takeDeferred hK2, ?_⟩⟩
      exact ⟨_, results_bool rfl rfl (boxed_putObj (bR.set _) hK2 rfl _), rfl, (hlow.setCell (p := ⟨w.heap.size + 1 + 1, 0, none⟩) (by show _ ≤ w.heap.size + 1 + 1; omega) _).trans (below_putObj _ (by omega) _)⟩
end Go.Proofs.Ytmhdapgiealmfaa
