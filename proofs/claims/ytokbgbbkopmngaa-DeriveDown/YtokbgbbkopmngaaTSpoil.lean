/- What Spoil turns: the lists of the term it is handed, nothing else; what Exact answers of two that are alike. -/
import Derived.Test.YtokbgbbkopmngaaTSep
import Derived.Test.YtokbgbbkopmngaaTRClone
namespace Go.Proofs.Ytokbgbbkopmngaa
open Go.RowKit Go.Deep

/-- Nothing that there was has turned but blocks of A. -/
structure Fr (A : Nat → Prop) (w w' : World) : Prop where
  low : Below 0 w w'
  same : ∀ k, k < w.heap.size → ¬ A k → w'.heap[k]? = w.heap[k]?
theorem Fr.refl (A : Nat → Prop) (w : World) : Fr A w w := ⟨Below.refl _ _, fun _ _ _ => rfl⟩
theorem Fr.trans {A : Nat → Prop} {x y z : World} (h : Fr A x y) (k : Fr A y z) : Fr A x z := ⟨h.low.trans k.low, fun q hq hA => (k.same q (Nat.lt_of_lt_of_le hq h.low.size) hA).trans (h.same q hq hA)⟩
theorem Fr.mono {A A' : Nat → Prop} {x y : World} (hA : ∀ k, A k → A' k) (h : Fr A x y) : Fr A' x y := ⟨h.low, fun q hq hn => h.same q hq (fun h' => hn (hA q h'))⟩
theorem Fr.of_below {A : Nat → Prop} {x y : World} (h : Below x.heap.size x y) : Fr A x y := ⟨h.mono (Nat.zero_le _), fun q hq _ => h.block q hq⟩
theorem Fr.below {A : Nat → Prop} {x y : World} {n : Nat} (h : Fr A x y) (hn : ∀ k, A k → n ≤ k) (hs : n ≤ x.heap.size) : Below n x y := ⟨h.low.os, h.low.tape, h.low.output, h.low.size, fun k hk => h.same k (by omega) (fun hA => by have := hn k hA; omega)⟩
theorem Fr.sets {A : Nat → Prop} {W : World} {g : Nat} (hg : A g) (i j k : Nat) (a b c : Value) : Fr A W (((W.setCell ⟨g, i, none⟩ a).setCell ⟨g, j, none⟩ b).setCell ⟨g, k, none⟩ c) :=
  ⟨(((Below.refl 0 W).setCell (p := ⟨g, i, none⟩) (Nat.zero_le _) _).setCell (p := ⟨g, j, none⟩) (Nat.zero_le _) _).setCell (p := ⟨g, k, none⟩) (Nat.zero_le _) _, fun q _ hn => by
    have : q ≠ g := fun e => hn (e ▸ hg)
    rw [Below.heap_setCell _ _ _ q this, Below.heap_setCell _ _ _ q this, Below.heap_setCell _ _ _ q this]⟩
/-- Three cells of a row are turned; those behind them are not. -/
theorem sets_behind {W : World} {g i n : Nat} {a b c : Value} {v : Value} (hi : n + 3 ≤ i) (h : W.cell? ⟨g, i, none⟩ = some v) : (((W.setCell ⟨g, n, none⟩ a).setCell ⟨g, n + 1, none⟩ b).setCell ⟨g, n + 2, none⟩ c).cell? ⟨g, i, none⟩ = some v := by
  rw [World.cell?_setCell_other _ _ _ _ (fun e => by cases e; omega), World.cell?_setCell_other _ _ _ _ (fun e => by cases e; omega), World.cell?_setCell_other _ _ _ _ (fun e => by cases e; omega)]
  exact h
theorem row_frozen {W : World} {g i : Nat} {cur : Array Value} {t : TypeId} (h : W.heap[g]? = some (Obj.cells cur t (0, 0))) : W.frozen? ⟨g, i, none⟩ = false := by simp [World.frozen?, h]

def SpoilOk (k : Nat) : Prop := ∀ (A : Nat → Prop) (x : ByteArray × Int) (l : Fo) (a : Option Addr) (c : Nat) (w : World), nodesF l ≤ k → SepTm w A x a c l →
  Calls Try.prog 18 #[.agg #[.string x.1, .int .i64 x.2, .slice a (lenF l) c]] w fun e w' => (∃ v, e = .returned v) ∧ Fr A w w'

set_option maxRecDepth 100000 in
set_option maxHeartbeats 2000000 in
theorem spoil_all : ∀ k, SpoilOk k := by
  intro k
  induction k using Nat.strongRecOn with
  | _ k ih =>
    intro A' x l a c w hk hS'
    have hn : lenF l ≤ 9223372036854775807 := by have := hS'.sizes.len; have := hS'.sizes.cap; unfold maxLen at *; omega
    obtain ⟨A, hA⟩ : ∃ A, A = fun k => A' k ∧ k < w.heap.size := ⟨_, rfl⟩
    have hS : SepTm w A x a c l := by rw [hA]; exact hS'.within
    have HA : Hid (∀ k, A k → A' k ∧ k < w.heap.size) := by show ∀ _, _; rw [hA]; exact fun k hk => hk
    clear hS' hA
    have IH : Hid (∀ j, j < k → SpoilOk j) := ih
    have hb0 : Below w.heap.size w (w.alloc (.cells #[.string x.1, .int .i64 x.2, .slice a (lenF l) c] 26)) := (Below.refl _ w).alloc (Nat.le_refl _) _
    have bT := TBox.new w x a (lenF l) c
    clear ih
    rcases hS.list with hl | ⟨g, cur, rfl, hAg, hcur, hsk⟩
    · subst hl
      go_enter Try.func18, Try.ntmps18
      go_wp2
      go_loopw [2] (fun i wr => i = .int .i64 0 ∧ Below w.heap.size w wr ∧ TBox wr w.heap.size x a (lenF .nil) c) (fun _ _ => 0)
      case atStart => exact ⟨rfl, hb0, bT⟩
      case round =>
        obtain ⟨rfl, hb, hT⟩ := hrel
        have t2 := hT.c2
        simp only [lenF] at t2
        go_wp2
        go_end0
        exact ⟨⟨_, rfl⟩, Fr.of_below hb⟩
    · have hS0 : SepKids (w.alloc (.cells #[.string x.1, .int .i64 x.2, .slice (some ⟨g, 0, none⟩) (lenF l) c] 26)) l (fun k => A k ∧ k ≠ g) g 0 := hsk.keep (fun q _ hlt => hb0.block q hlt) (fun i v _ hv => below_cell hb0 _ _ hv)
      have hg0 : (w.alloc (.cells #[.string x.1, .int .i64 x.2, .slice (some ⟨g, 0, none⟩) (lenF l) c] 26)).heap[g]? = some (Obj.cells cur 26 (0, 0)) := (hb0.block g (HA.out g hAg).2).trans hcur
      have F0 : Hid (Fr A w (w.alloc (.cells #[.string x.1, .int .i64 x.2, .slice (some ⟨g, 0, none⟩) (lenF l) c] 26))) := Fr.of_below hb0
      clear hS hsk hcur hb0
      go_enter Try.func18, Try.ntmps18
      go_wp2
      go_loopw [2] (fun i wr => ∃ (j : Nat) (B : Nat → Prop) (cur : Array Value), j ≤ lenF l ∧ i = .int .i64 j ∧ (∀ k, B k → A k ∧ k ≠ g) ∧ Fr A w wr ∧ TBox wr w.heap.size x (some ⟨g, 0, none⟩) (lenF l) c ∧ wr.heap[g]? = some (Obj.cells cur 26 (0, 0)) ∧ SepKids wr (dropF j l) B g (j * 3)) (fun i _ => lenF l - (intOf i).toNat)
      case atStart => exact ⟨0, _, cur, Nat.zero_le _, rfl, fun k hk => hk, F0.out, bT, hg0, by rw [drop_zero]; simpa using hS0⟩
      case round =>
        obtain ⟨j, B, cur', hj, rfl, hBA, hF, hT, hG, hK⟩ := hrel
        have t2 := hT.c2
        by_cases hlt : j < lenF l
        · obtain ⟨b1, o1, y, l1, r1, hd⟩ := drop_node j l hlt
          have hnd := nodes_drop j l
          have hds := drop_succ j l hd
          rw [hd] at hK hnd
          obtain ⟨A1, A2, hA1, hA2, ⟨a1, c1, p0, p1, p2, hsz, hl1⟩, hrest⟩ := hK
          have hC := IH.out (nodesF l1) (by simp only [nodesF] at hnd; omega) A1 y l1 a1 c1 wr (Nat.le_refl _) ⟨hsz, hl1⟩
          have HF : Hid (Fr A w wr) := hF
          have HT : Hid (TBox wr w.heap.size x (some ⟨g, 0, none⟩) (lenF l) c) := hT
          have HG : Hid (wr.heap[g]? = some (Obj.cells cur' 26 (0, 0))) := hG
          have HR : Hid (SepKids wr r1 A2 g (j * 3 + 3)) := hrest
          clear hF hT hG hrest hsz hl1 hS0 hg0 bT hd hnd
          go_wp2_with fail
          refine hC.mono ?_
          rintro e w2 ⟨⟨v, rfl⟩, hf2⟩
          have hgA1 : ¬ A1 g := fun h => (hBA g (hA1 g h)).2 rfl
          have hG2 : w2.heap[g]? = some (Obj.cells cur' 26 (0, 0)) := (hf2.same g (Array.getElem?_eq_some_iff.1 HG.out).1 hgA1).trans HG.out
          have hT2 : TBox w2 w.heap.size x (some ⟨g, 0, none⟩) (lenF l) c := (hf2.same _ HT.out.lt (fun h => by have := (HA.out _ (hBA _ (hA1 _ h)).1).2; omega)).trans HT.out
          have z2 := hT2.c2
          have q0 : w2.cell? ⟨g, j * 3, none⟩ = some (.string y.1) := (World.cell?_of_block (hG2.trans HG.out.symm)).trans p0
          have q1 : w2.cell? ⟨g, j * 3 + 1, none⟩ = some (.int .i64 y.2) := (World.cell?_of_block (hG2.trans HG.out.symm)).trans p1
          have q2 : w2.cell? ⟨g, j * 3 + 2, none⟩ = some (.slice a1 (lenF l1) c1) := (World.cell?_of_block (hG2.trans HG.out.symm)).trans p2
          have f0 := row_frozen (i := j * 3) hG2
          have f1 := row_frozen (i := j * 3 + 1) hG2
          have f2 := row_frozen (i := j * 3 + 2) hG2
          have HF2 : Hid (Fr A1 wr w2) := hf2
          have HG2 : Hid (w2.heap[g]? = some (Obj.cells cur' 26 (0, 0))) := hG2
          have HT2 : Hid (TBox w2 w.heap.size x (some ⟨g, 0, none⟩) (lenF l) c) := hT2
          clear hC hf2 hG2 hT2 p0 p1 p2 t2
          go_wp2
          go_roundw
          case rel =>
            refine ⟨j + 1, A2, _, by omega, by go_num, fun q hq => hBA q (hA2 q hq).1, (HF.out.trans (HF2.out.mono (fun q hq => (hBA q (hA1 q hq)).1))).trans (Fr.sets hAg _ _ _ _ _ _), ?_, block_set (block_set (block_set HG2.out _) _) _, ?_⟩
            · have : w.heap.size ≠ g := by have := (HA.out g hAg).2; omega
              exact (((Below.heap_setCell _ _ _ _ this).trans (Below.heap_setCell _ _ _ _ this)).trans (Below.heap_setCell _ _ _ _ this)).trans HT2.out
            · rw [hds, show (j + 1) * 3 = j * 3 + 3 by omega]
              refine (HR.out.keep (w' := w2) (fun q hq hlt' => HF2.out.same q hlt' (hA2 q hq).2) (fun i v _ hv => (World.cell?_of_block (HG2.out.trans HG.out.symm)).trans hv)).keep (fun q hq _ => ?_) (fun i v hi hv => sets_behind hi hv)
              have : q ≠ g := (hBA q (hA2 q hq).1).2
              exact ((Below.heap_setCell _ _ _ _ this).trans (Below.heap_setCell _ _ _ _ this)).trans (Below.heap_setCell _ _ _ _ this)
          case measure => simp [intOf]; omega
        · go_wp2
          go_end0
          exact ⟨⟨_, rfl⟩, hF.mono (fun q hq => (HA.out q hq).1)⟩
theorem spoil_any (A : Nat → Prop) (x : ByteArray × Int) (l : Fo) (a : Option Addr) (c : Nat) (w : World) (hS : SepTm w A x a c l) :
    Calls Try.prog 18 #[.agg #[.string x.1, .int .i64 x.2, .slice a (lenF l) c]] w fun e w' => (∃ v, e = .returned v) ∧ Fr A w w' := spoil_all _ A x l a c w (Nat.le_refl _) hS

def ExactOk (k : Nat) : Prop := ∀ (x : ByteArray × Int) (l : Fo) (a b : Option Addr) (c d : Nat) (w : World), nodesF l ≤ k → TmAt w x a c l → TmAt w x b d l →
  Calls Try.prog 16 #[.agg #[.string x.1, .int .i64 x.2, .slice a (lenF l) c], .agg #[.string x.1, .int .i64 x.2, .slice b (lenF l) d]] w fun e w' => e = .returned (.bool true) ∧ Below w.heap.size w w'

set_option maxRecDepth 100000 in
set_option maxHeartbeats 2000000 in
theorem exact_all : ∀ k, ExactOk k := by
  intro k
  induction k using Nat.strongRecOn with
  | _ k ih =>
    intro x l a b c d w hk hS hT
    have HS : Hid (TmAt w x a c l) := hS
    have HT : Hid (TmAt w x b d l) := hT
    have IH : Hid (∀ j, j < k → ExactOk j) := ih
    have PA : Hid (Pair w x a (lenF l) c x b (lenF l) d ((w.alloc (.cells #[.string x.1, .int .i64 x.2, .slice a (lenF l) c] 26)).alloc (.cells #[.string x.1, .int .i64 x.2, .slice b (lenF l) d] 26))) := Pair.new _ _ _ _ _ _ _ _ _
    have hn : lenF l ≤ 9223372036854775807 := by have := hS.sizes.len; have := hS.sizes.cap; unfold maxLen at *; omega
    clear hS hT ih
    go_enter Try.func16, Try.ntmps16
    go_wp2
    go_loopw [5, 6] (fun i _ wr => ∃ j : Nat, j ≤ lenF l ∧ i = .int .i64 j ∧ Pair w x a (lenF l) c x b (lenF l) d wr) (fun i _ _ => lenF l - (intOf i).toNat)
    case atStart => exact ⟨0, Nat.zero_le _, rfl, PA.out⟩
    case round =>
      obtain ⟨j, hj, rfl, hP⟩ := hrel
      have t2 := hP.l.c2
      by_cases hlt : j < lenF l
      · obtain ⟨b1, o1, rfl, hk1⟩ := HS.out.args.get (by omega)
        obtain ⟨bb, oo, rfl, hkk⟩ := HT.out.args.get (by omega)
        obtain ⟨y, a1, c1, l1, kd⟩ := hk1.kid (k := j) hlt
        obtain ⟨y', a2, c2, l2, kd2⟩ := hkk.kid (k := j) hlt
        obtain ⟨rfl, rfl⟩ := kid_same kd kd2
        have kd' := kd.below hP.low
        have kd2' := kd2.below hP.low
        have HP : Hid (Pair w x (some ⟨b1, o1, none⟩) (lenF l) c x (some ⟨bb, oo, none⟩) (lenF l) d wr) := hP
        have hC : Hid (∀ w', Below wr.heap.size wr w' → Calls Try.prog 16 #[.agg #[.string y'.1, .int .i64 y'.2, .slice a1 (lenF l2) c1], .agg #[.string y'.1, .int .i64 y'.2, .slice a2 (lenF l2) c2]] w' fun e w'' => e = .returned (.bool true) ∧ Below w'.heap.size w' w'') := fun w' hb =>
          IH.out (nodesF l2) (by have := kd.less; omega) y' l2 a1 a2 c1 c2 w' (Nat.le_refl _) (kd'.at_.below hb) (kd2'.at_.below hb)
        have hne := later_some wr
        have d0 := later_cell hP.l.c2
        have d1 := later_cell hP.r.c2
        have p0 := later_cell kd'.name; have p1 := later_cell kd'.sym; have p2 := later_cell kd'.list
        have q0 := later_cell kd2'.name; have q1 := later_cell kd2'.sym; have q2 := later_cell kd2'.list
        have hk0 : (0 : Int) ≤ (j : Int) := by omega
        have hkn : (j : Int) < (lenF l : Int) := by omega
        clear kd kd2 kd' kd2' hk1 hkk hP
        go_wp2_with fail
        refine wp_region_later (by kernel_rfl) (by kernel_rfl) ?_
        repeat (go_big_quiet_step ((refine calls_later (hC.out _ ?_); exact Later.below _)))
        refine wpQuiet_nil ?_
        intro _ hw'
        obtain ⟨b2, hw''⟩ := hw'
        subst hw''
        have HP2 : Hid (Pair w x (some ⟨b1, o1, none⟩) (lenF l) c x (some ⟨bb, oo, none⟩) (lenF l) d b2.now) := HP.out.below b2.below
        clear d0 d1 p0 p1 p2 q0 q1 q2 t2
        go_wp2
        go_roundw
        case rel => exact ⟨j + 1, by omega, by go_num, HP2.out⟩
        case measure => simp [intOf]; omega
      · go_wp2
        go_ret
        exact ⟨rfl, hP.low⟩
theorem exact_any (x : ByteArray × Int) (l : Fo) (a b : Option Addr) (c d : Nat) (w : World) (hS : TmAt w x a c l) (hT : TmAt w x b d l) :
    Calls Try.prog 16 #[.agg #[.string x.1, .int .i64 x.2, .slice a (lenF l) c], .agg #[.string x.1, .int .i64 x.2, .slice b (lenF l) d]] w fun e w' => e = .returned (.bool true) ∧ Below w.heap.size w w' := exact_all _ x l a b c d w (Nat.le_refl _) hS hT
end Go.Proofs.Ytokbgbbkopmngaa
