import Derived.Test.YtfnfbljijkjkjaaGreatKSoZ
/- Free of one equation of a variable and a constant: the head's question. -/
namespace Go.Proofs.YtfnfbljijkjkjaaGreat
open Go.RowKit Go.Deep

abbrev kX : Kv := ⟨(bX, 0), .nil, none, 0⟩
abbrev kA : Kv := ⟨(noS, 0), .nil, none, 0⟩
theorem kX_at (w : World) : TmAt w (bX, 0) none 0 .nil := ⟨⟨by decide, by simp [lenF], by simp, by simp [lenF]⟩, .inl rfl⟩
theorem look_head : lookP someL ((bX, 0), .nil) ((noS, 0), .nil) = setW bX ((noS, 0), .nil) := by kernel_rfl
theorem fr_below {A : Nat → Prop} {n0 : Nat} {w V W : World} (hb : Below n0 w V) (h : Fr A V W) (hA : ∀ q, A q → n0 ≤ q) (hn : n0 ≤ V.heap.size) : Below n0 w W := hb.trans (h.below hA hn)
def lenAt (w : World) (B : Nat) : Nat := match w.cell? ⟨B, 0, none⟩ with | some (.slice _ n _) => n | _ => 0

set_option maxRecDepth 100000 in
set_option maxHeartbeats 4000000 in
theorem free_head (S : Option Addr) (cap gl : Nat) (w : World) (hG : SigAt w S 5 someL) (hl : CellsAt w gl [kX, kA]) :
    Calls Tryz.prog 13 #[.slice S 5 cap, .slice (some ⟨gl, 0, none⟩) 1 1] w fun e w' => (∃ p c, e = .returned (.tuple #[.slice p 1 c, .bool true, .int .i64 0])) ∧ Below w.heap.size w w' := by
  have HG := hid hG; have HL := hid hl
  have h0 : w.cell? ⟨gl, 0, none⟩ = some (.string bX) := hl 0 _ rfl
  have h1 : w.cell? ⟨gl, 1, none⟩ = some (.int .i64 0) := hl 1 _ rfl
  have h2 : w.cell? ⟨gl, 2, none⟩ = some (.slice none 0 0) := hl 2 _ rfl
  have h3 : w.cell? ⟨gl, 3, none⟩ = some (.string noS) := hl 3 _ rfl
  have h4 : w.cell? ⟨gl, 4, none⟩ = some (.int .i64 0) := hl 4 _ rfl
  have h5 : w.cell? ⟨gl, 5, none⟩ = some (.slice none 0 0) := hl 5 _ rfl
  clear hG hl
  go_enter Tryz.func13, Tryz.ntmps13
  go_wp2_with fail
  go_loopw [15] (fun i wr => ∃ j : Nat, j ≤ 1 ∧ i = .int .i64 j ∧ Below w.heap.size w wr) (fun i _ => 1 - (intOf i).toNat)
  case atStart => exact ⟨0, by omega, rfl, Below.refl _ _⟩
  case round =>
    obtain ⟨j, hj, rfl, hb⟩ := hrel
    have HB := hid hb
    by_cases hlt : j < 1
    · obtain rfl : j = 0 := by omega
      have q0 := below_cell hb _ _ h0; have q1 := below_cell hb _ _ h1; have q2 := below_cell hb _ _ h2; have q3 := below_cell hb _ _ h3; have q4 := below_cell hb _ _ h4; have q5 := below_cell hb _ _ h5
      have hE := alloc_below0 wr (.cells #[.string bX, .int .i64 0, .slice none 0 0, .string noS, .int .i64 0, .slice none 0 0] 28)
      have HE := hid hE
      have HBX := hid (Box.new wr 28 #[.string bX, .int .i64 0, .slice none 0 0, .string noS, .int .i64 0, .slice none 0 0])
      have HA := hid fun (W : World) (hW : Below wr.heap.size wr W) => allFree_leaf S 5 cap someL (bX, 0) W (HG.out.below (HB.out.trans (hW.mono HB.out.size))) (by decide +kernel)
      have HC := hid fun (W : World) (hW : Below wr.heap.size wr W) => allFree_leaf S 5 cap someL (noS, 0) W (HG.out.below (HB.out.trans (hW.mono HB.out.size))) (by decide +kernel)
      clear hb hE
      go_wp2_with (first
        | (go_at_call 27; (with_reducible refine (HC.out _ HE1.out).mono ?_); rintro e w2 ⟨rfl, hb2⟩; have HE2 := hid (HE1.out.trans (hb2.mono HE1.out.size)); clear hb2)
        | (go_at_call 27; (with_reducible refine (HA.out _ HE.out).mono ?_); rintro e w1 ⟨rfl, hb1⟩; have HE1 := hid (HE.out.trans (hb1.mono HE.out.size)); have X1 := HBX.out.below hb1; have z3 := X1.c 3; have z4 := X1.c 4; have z5 := X1.c 5; clear hb1 X1))
      go_roundw
      case rel => exact ⟨1, by omega, by go_num, HB.out.trans (HE2.out.mono HB.out.size)⟩
      case measure => simp [intOf]
    · obtain rfl : j = 1 := by omega
      have hbS := alloc_below0 wr (.cells #[.slice none 0 0, .slice none 0 0] 72)
      have HBS := hid hbS
      have hSB := Box.new wr 72 #[.slice none 0 0, .slice none 0 0]
      have hgl : gl < wr.heap.size := Nat.lt_of_lt_of_le (World.block_lt_of_cell? w ⟨gl, 0, none⟩ h0) hb.size
      have HLY := hid (lay_one wr.heap.size gl 1 (.slice none 0 0) _ kX kA hSB ((HL.out.below HB.out).below hbS) (by omega))
      have HBW := hid (HB.out.trans (hbS.mono HB.out.size))
      have HWS : Hid (w.heap.size ≤ wr.heap.size) := hid hb.size
      clear hb hbS hSB
      go_wp2_with (go_at_call 28; refine HLY.out.mono ?_; rintro e w1 ⟨⟨v, rfl⟩, ⟨g2, c2, hb2, hc2, hg2, hcs2⟩, hf1⟩; have HB2 := hid hb2; have HC2 := hid hc2; have HCS := hid hcs2; have HB1 := hid (fr_below HBW.out hf1 (fun q hq => by have := HWS.out; omega) HBW.out.size); have HG2 : Hid (wr.heap.size + 1 ≤ g2) := hid (by simp at hg2; omega); clear hb2 hc2 hg2 hcs2 hf1)
      clear HLY HL h0 h1 h2 h3 h4 h5
      go_loopw [10] (fun _ W => (Below w.heap.size w W ∧ ∃ g2 c2, Box W wr.heap.size 72 #[.slice (some ⟨g2, 0, none⟩) 1 c2, .slice none 0 0] ∧ 1 ≤ c2 ∧ CellsAt W g2 [kX, kA] ∧ wr.heap.size + 1 ≤ g2) ∨
          (Below w.heap.size w W ∧ ∃ p c g3 c3 a d, Box W wr.heap.size 72 #[.slice p 0 c, .slice (some ⟨g3, 0, none⟩) 1 c3] ∧ W.cell? ⟨g3, 0, none⟩ = some (.string bX) ∧ W.cell? ⟨g3, 1, none⟩ = some (.string noS) ∧ W.cell? ⟨g3, 2, none⟩ = some (.int .i64 0) ∧ W.cell? ⟨g3, 3, none⟩ = some (.slice a 0 d) ∧ TmAt W (noS, 0) a d .nil)) (fun _ W => lenAt W wr.heap.size)
      case atStart => exact .inl ⟨HB1.out, g2, c2, HB2.out, HC2.out, HCS.out, HG2.out⟩
      case round =>
        rename World => W
        rcases hrel with ⟨hb, g4, c4, hbx, hc4, hcs4, hg4⟩ | ⟨hb, p, c, g3, c3, a, d, hbx, k0, k1, k2, k3, hT⟩
        · have HBR := hid hb; have HBX := hid hbx
          have HTK := hid (take_one wr.heap.size g4 c4 _ W kX kA hbx hc4 hcs4)
          clear hb hbx hc4 hcs4 HB1 HB2 HC2 HCS
          go_wp2_with (go_at_call 29; refine HTK.out.mono ?_; rintro e w3 ⟨rfl, hb3, hf3⟩; have HB3 := hid hb3; have HF3 := hid hf3; clear hb3 hf3)
          have hb4 := alloc_below0 w3 (.cells #[.string bX, .int .i64 0, .slice none (lenF .nil) 0, .string noS, .int .i64 0, .slice none (lenF .nil) 0] 28)
          have HW3 := hid (fr_below HBR.out HF3.out (fun q hq => by have := HWS.out; omega) HBR.out.size)
          have HW4 := hid (HW3.out.trans (hb4.mono HW3.out.size))
          have HB4 := hid (HB3.out.below hb4)
          have hlk := look_any S 5 cap someL ((bX, 0), .nil) ((noS, 0), .nil) none none 0 0 _ _ (HG.out.below HW4.out) (kX_at _) (zT_at _) (Below.refl _ _) (by simp [nodesF]) (by simp [nodesF])
          rw [look_head] at hlk
          refine hlk.mono ?_
          clear hlk hb4
          generalize w3.alloc (.cells #[.string bX, .int .i64 0, .slice none (lenF .nil) 0, .string noS, .int .i64 0, .slice none (lenF .nil) 0] 28) = W4 at HW4 HB4 ⊢
          rintro e w5 ⟨⟨v, rfl, hv⟩, hb5⟩
          obtain ⟨⟨⟨tn, ts⟩, tl, ta, tc⟩, ks, la, lc, rfl, htk, hT, _, _, _⟩ := hv.is
          have e1 : (tn, ts) = (noS, (0 : Int)) := congrArg Prod.fst htk
          have e2 : tl = .nil := congrArg Prod.snd htk
          cases e1
          subst e2
          dsimp only at hT
          have hT5 := hT.below hb5
          have HW5 := hid (HW4.out.trans (hb5.mono HW4.out.size))
          have HB5 := hid (HB4.out.below hb5)
          have hb6 := alloc_below0 w5 (.cells (wayC 3 bX (noS, 0) ta (lenF .nil) tc la 0 lc 0) 41)
          have HBX6 := hid (Box.new w5 41 (wayC 3 bX (noS, 0) ta (lenF .nil) tc la 0 lc 0))
          have HW6 := hid (HW5.out.trans (hb6.mono HW5.out.size))
          have HST := hid (set_one wr.heap.size c4 (some ⟨g4, 0, none⟩) _ bX ((noS, 0), .nil) ta tc (HB5.out.below hb6) (hT5.below hb6) (by simp [nodesF]))
          have HT6 := hid (hT5.below hb6)
          have HLN : Hid (lenAt W wr.heap.size = 1) := hid (by unfold lenAt; rw [show W.cell? ⟨wr.heap.size, 0, none⟩ = some (.slice (some ⟨g4, 0, none⟩) 1 c4) from HBX.out.c 0])
          clear hv htk hT hT5 hb5 hb6 HTK
          simp only [setW, List.length_nil]
          unfold wayC at *
          go_wp2_with (go_at_call 31; refine HST.out.mono ?_; rintro e w7 ⟨rfl, ⟨g3, c3, b2, hbg, hbb, hb7, hc7, ho7⟩, hf7⟩; have HB7 := hid hb7; have HO7 := hid ho7; have HF7 := hid hf7; clear hb7 ho7 hf7)
          go_roundw
          case rel =>
            refine .inr ⟨fr_below HW6.out HF7.out (fun q hq => by have := HWS.out; omega) HW6.out.size, _, _, g3, c3, ta, tc, HB7.out, owns_cell0 HO7.out rfl, owns_cell0 HO7.out rfl, owns_cell0 HO7.out rfl, owns_cell0 HO7.out rfl, ?_⟩
            exact ⟨HT6.out.sizes, .inl rfl⟩
          case measure =>
            rw [HLN.out]
            unfold lenAt
            rw [show w7.cell? ⟨wr.heap.size, 0, none⟩ = some (.slice (some ⟨g4, 0, none⟩) 0 c4) from HB7.out.c 0]
            exact Nat.zero_lt_one
        · have HBR := hid hb
          have HTN := hid (take_none wr.heap.size c p _ W hbx)
          have HBX := hid hbx
          clear hb HB1 HB2 HC2 HCS
          go_wp2_with (first
            | (go_at_call 29; refine HTN.out.mono ?_; rintro e w3 ⟨rfl, hb3⟩; have hb4 := alloc_below0 w3 (.cells #[.string ⟨#[]⟩, .int .i64 0, .slice none 0 0, .string ⟨#[]⟩, .int .i64 0, .slice none 0 0] 28); have hb34 := hb3.trans (hb4.mono hb3.size); have HW4 := hid (HBR.out.trans (hb34.mono HBR.out.size)); have HTD := hid (told_one wr.heap.size g3 c3 _ _ bX ((noS, 0), .nil) a d (HBX.out.below hb34) (below_cell hb34 _ _ k0) (below_cell hb34 _ _ k1) (below_cell hb34 _ _ k2) (below_cell hb34 _ _ k3) (hT.below hb34)); clear hb3 hb4 hb34)
            | (go_at_call 30; refine HTD.out.mono ?_; rintro e w6 ⟨⟨p6, c6, rfl⟩, hb6⟩; have HW6 := hid (HW4.out.trans (hb6.mono HW4.out.size)); clear hb6))
          go_ret3
          exact ⟨⟨_, _, rfl⟩, HW6.out⟩
end Go.Proofs.YtfnfbljijkjkjaaGreat
/- The statements' head: the program is there. -/
namespace Go.Proofs.YtfnfbljijkjkjaaGreat
open Go.RowKit Go.Deep

theorem one_head : oneP someL ((bX, 0), .nil) ((noS, 0), .nil) = setW bX ((noS, 0), .nil) := by kernel_rfl
set_option maxRecDepth 100000 in
set_option maxHeartbeats 4000000 in
theorem head_ok : HeadOk := by
  intro w
  have H18 := hid fun W => some_any W
  go_enter Tryz.func5, Tryz.ntmps5
  go_wp2_with (first
    | (go_at_call 17; (with_reducible refine (H18.out _).mono ?_); rintro e w1 ⟨g1, rfl, hs1, hb1⟩; first
        | (have HB3 := hid (HB2.out.trans (hb1.mono HB2.out.size)); have HS3 := hid hs1; have HY3 := hid (HY2.out.below hb1); clear hs1 hb1)
        | (have HB1 := hid hb1; have HS1 := hid hs1; clear hs1 hb1))
    | (go_at_call 9; refine (one_any _ 5 5 someL ((bX, 0), .nil) ((noS, 0), .nil) none none 0 0 _ HS1.out (kX_at _) (zT_at _) (by simp [nodesF]) (by simp [nodesF])).mono ?_; rw [one_head]; rintro e w2 ⟨⟨v, rfl, hv⟩, hb2⟩; obtain ⟨⟨⟨tn, ts⟩, tl, ta, tc⟩, ks, la, lc, rfl, htk, hy1, hy2, hy3⟩ := hv.is; clear hy1 hy2 hy3; have e1 : (tn, ts) = (noS, (0 : Int)) := congrArg Prod.fst htk; have e2 : tl = .nil := congrArg Prod.snd htk; cases e1; subst e2; have hb2' := hb2.trans ((alloc_below0 w2 (.cells (wayC 3 bX (noS, 0) ta (lenF .nil) tc la 0 lc 0) 41)).mono hb2.size); have HB2 := hid (HB1.out.trans (hb2'.mono HB1.out.size)); have HY2 := hid (Box.new w2 41 (wayC 3 bX (noS, 0) ta (lenF .nil) tc la 0 lc 0)); clear hv htk hb2 hb2'; simp only [setW, List.length_nil]; unfold wayC at *))
  have hb4 := alloc_below0 w1 (.cells #[.string bX, .int .i64 0, .slice none 0 0, .string noS, .int .i64 0, .slice none 0 0] 28)
  have hx4 := Box.new w1 28 #[.string bX, .int .i64 0, .slice none 0 0, .string noS, .int .i64 0, .slice none 0 0]
  have hcs : CellsAt (w1.alloc (.cells #[.string bX, .int .i64 0, .slice none 0 0, .string noS, .int .i64 0, .slice none 0 0] 28)) w1.heap.size [kX, kA] := fun i u hu => by
    rw [hx4.c i]
    have e : kvCells [kX, kA] = [.string bX, .int .i64 0, .slice none 0 0, .string noS, .int .i64 0, .slice none 0 0] := rfl
    rw [e] at hu
    simpa using hu
  have HB4 := hid (HB3.out.trans (hb4.mono HB3.out.size))
  have HY4 := hid (HY3.out.below hb4)
  refine (free_head _ 5 w1.heap.size _ (HS3.out.below hb4) hcs).mono ?_
  rintro e w5 ⟨⟨p5, c5, rfl⟩, hb5⟩
  have HB5 := hid (HB4.out.trans (hb5.mono HB4.out.size))
  have Y5 := HY4.out.below hb5
  have z0 : w5.cell? ⟨w2.heap.size, 0, none⟩ = some (.int .i64 3) := Y5.c 0
  have z1 : w5.cell? ⟨w2.heap.size, 1, none⟩ = some (.string ⟨#[88]⟩) := Y5.c 1
  have z2 : w5.cell? ⟨w2.heap.size, 2, none⟩ = some (.string ⟨#[]⟩) := Y5.c 2
  clear hb4 hx4 hcs hb5 Y5
  go_wp2_with fail
  go_ret
  exact ⟨rfl, HB5.out⟩
end Go.Proofs.YtfnfbljijkjkjaaGreat
