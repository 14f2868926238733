import Derived.Test.YtfnfbljijkjkjaaGreatKUfE
/- putIn of the solver. -/
namespace Go.Proofs.YtfnfbljijkjkjaaGreat
open Go.RowKit Go.Shelf Go.Deep

/-- What putIn leaves where there is room. -/
def PutTo (S : Nat → Obj → Bool) (nm : ByteArray) (T : Tn) (g o : Nat) (k : Kv) (w w' : World) : Prop :=
  ∃ (k' : Kv) (w1 : World), k'.tn = w1N nm T k.x k.l ∧ Below w.heap.size w w1 ∧ TmO S w1 k'.x k'.a k'.c k'.l ∧ (w' = set3 w1 g o k' ∨ (w' = w1 ∧ k' = k))
def roomB (nm : ByteArray) (N : Int) (x : ByteArray × Int) (l : Fo) : Bool := decide (0 ≤ l1N nm N x l 400)
set_option maxRecDepth 100000 in
set_option maxHeartbeats 4000000 in
theorem putIn_no (nm : ByteArray) (T : Tn) (ta : Option Addr) (tc : Nat) {N : Int} (hN : 0 ≤ N ∧ N ≤ 1048577) (Q g o : Nat) (k : Kv) (w : World) (hQ : Box w Q 105 (ptC nm T ta tc N)) (hT : TmAt w k.x k.a k.c k.l)
    (c0 : w.cell? ⟨g, o, none⟩ = some (.string k.x.1)) (c1 : w.cell? ⟨g, o + 1, none⟩ = some (.int .i64 k.x.2)) (c2 : w.cell? ⟨g, o + 2, none⟩ = some (.slice k.a (lenF k.l) k.c)) (hf : roomB nm N k.x k.l = false) :
    Calls Tryz.prog 77 #[.pointer (some ⟨Q, 0, none⟩), .pointer (some ⟨g, o, none⟩)] w fun e w' => e = .returned (.bool false) ∧ Below w.heap.size w w' := by
  have HL := hid (left1_all nm T ta tc hN (nodesF k.l) k.x k.l k.a k.c Q 400 w (Nat.le_refl _) hT hQ (by omega) (by omega))
  have hf' : l1N nm N k.x k.l 400 < 0 := by have := of_decide_eq_false hf; omega
  obtain ⟨x, l, a, c⟩ := k
  dsimp only at *
  generalize l1N nm N x l 400 = lv at HL hf'
  clear hQ hT hf
  go_enter Tryz.func77, Tryz.ntmps77
  go_wp2_with (go_at_call 96; refine HL.out.mono ?_; rintro e w1 ⟨rfl, hb1⟩; have HB1 := hid hb1; clear hb1)
  go_ret
  exact ⟨rfl, HB1.out⟩
set_option maxRecDepth 100000 in
set_option maxHeartbeats 4000000 in
theorem putIn_yes (S : Nat → Obj → Bool) (nm : ByteArray) (T : Tn) (ta : Option Addr) (tc : Nat) {N : Int} (hN : 0 ≤ N ∧ N ≤ 1048577) (Q g o : Nat) (k : Kv) (w : World) (hQ : Box w Q 105 (ptC nm T ta tc N)) (hSS : ∀ b o, w.heap.size ≤ b → is26 o = true → S b o = true) (hT : TmO S w k.x k.a k.c k.l) (hTT : TmO S w T.1 ta tc T.2) (hM : nodesF k.l ≤ 1048576)
    (c0 : w.cell? ⟨g, o, none⟩ = some (.string k.x.1)) (c1 : w.cell? ⟨g, o + 1, none⟩ = some (.int .i64 k.x.2)) (c2 : w.cell? ⟨g, o + 2, none⟩ = some (.slice k.a (lenF k.l) k.c)) (hfz : ∀ i, w.frozen? ⟨g, i, none⟩ = false) (hf : roomB nm N k.x k.l = true) :
    Calls Tryz.prog 77 #[.pointer (some ⟨Q, 0, none⟩), .pointer (some ⟨g, o, none⟩)] w fun e w' => e = .returned (.bool true) ∧ PutTo S nm T g o k w w' := by
  have HL := hid (left1_all nm T ta tc hN (nodesF k.l) k.x k.l k.a k.c Q 400 w (Nat.le_refl _) (tmO_tm hT) hQ (by omega) (by omega))
  have HW := hid fun (W : World) (hW : Below w.heap.size w W) => with1_all nm T ta tc N (nodesF k.l) S k.x k.l k.a k.c Q W (Nat.le_refl _) hM (fun b o hb ho => hSS b o (by have := hW.size; omega) ho) (tmO_below hT hW) (tmO_below hTT hW) (hQ.below hW)
  have hf' : 0 ≤ l1N nm N k.x k.l 400 := of_decide_eq_true hf
  have hgl := World.block_lt_of_cell? w _ c0
  have HT := hid hT
  unfold PutTo
  obtain ⟨x, l, a, c⟩ := k
  dsimp only at *
  have HP : Hid (∀ W, Below w.heap.size w W → W.cell? ⟨g, o, none⟩ = some (.string x.1) ∧ W.cell? ⟨g, o + 1, none⟩ = some (.int .i64 x.2) ∧ W.cell? ⟨g, o + 2, none⟩ = some (.slice a (lenF l) c)) := hid fun W hW => ⟨below_cell hW _ _ c0, below_cell hW _ _ c1, below_cell hW _ _ c2⟩
  have HFZ : Hid (∀ W i, Below w.heap.size w W → W.frozen? ⟨g, i, none⟩ = false) := hid fun W i hW => (World.frozen?_of_block (hW.block g hgl)).trans (hfz i)
  generalize l1N nm N x l 400 = lv at HL hf'
  clear hQ hT hf hTT hSS hfz hgl
  unfold WithEnd at HW
  cases hy : h1N nm x l
  · rw [hy] at HW
    have HY := hid hy
    clear hy
    go_enter Tryz.func77, Tryz.ntmps77
    go_wp2_with (first
      | (go_at_call 96; refine HL.out.mono ?_; rintro e w1 ⟨rfl, hb1⟩; have HB1 := hid hb1; obtain ⟨c0, c1, c2⟩ := HP.out _ hb1; clear hb1)
      | (go_at_call 97; refine (HW.out _ HB1.out).mono ?_; rintro e w2 ⟨a', c', rfl, ht2, hb2, h7⟩; obtain ⟨rfl, rfl⟩ := h7 trivial; have HB2 := hid (HB1.out.trans ((hb2.trans ((alloc_below0 w2 (.cells #[.string (w1N nm T x l).1.1, .int .i64 (w1N nm T x l).1.2, .slice a' (lenF (w1N nm T x l).2) c'] 26)).mono hb2.size)).mono HB1.out.size)); clear hb2 ht2 h7))
    go_ret
    exact ⟨rfl, ⟨x, l, a', c'⟩, _, (w1N_not HY.out).symm, HB2.out, tmO_below HT.out HB2.out, .inr ⟨rfl, rfl⟩⟩
  · rw [hy] at HW
    have HY := hid hy
    clear hy
    generalize hyy : w1N nm T x l = yy at HW
    obtain ⟨⟨yn, ys⟩, yl⟩ := yy
    have HYY := hid hyy
    clear hyy
    dsimp only at *
    go_enter Tryz.func77, Tryz.ntmps77
    go_wp2_with (first
      | (go_at_call 96; refine HL.out.mono ?_; rintro e w1 ⟨rfl, hb1⟩; have HB1 := hid hb1; obtain ⟨c0, c1, c2⟩ := HP.out _ hb1; clear hb1)
      | (go_at_call 97; refine (HW.out _ HB1.out).mono ?_; rintro e w2 ⟨a', c', rfl, ht2, hb2, _⟩; have hal := alloc_below0 w2 (.cells #[.string yn, .int .i64 ys, .slice a' (lenF yl) c'] 26); have HB2 := hid (HB1.out.trans ((hb2.trans (hal.mono hb2.size)).mono HB1.out.size)); have HT2 := hid (tmO_below ht2 hal); obtain ⟨c0, c1, c2⟩ := HP.out _ HB2.out; have f0 := HFZ.out _ o HB2.out; have f1 := HFZ.out _ (o + 1) HB2.out; have f2 := HFZ.out _ (o + 2) HB2.out; clear hb2 ht2 hal))
    go_ret
    exact ⟨rfl, ⟨(yn, ys), yl, a', c'⟩, _, rfl, HB2.out, HT2.out, .inl rfl⟩
end Go.Proofs.YtfnfbljijkjkjaaGreat
