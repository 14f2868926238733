/- push. -/
import Derived.Test.YtdpdpjfnanjmgaaDoorSpD
import Derived.Deep.RegionWith
import Derived.Deep.MidRow
namespace Go.Proofs.YtdpdpjfnanjmgaaDoor
open Go.RowKit Go.Shelf

theorem below_drewN1 {n : Nat} {w w' : World} (h : Below n w w') (a : Nat) : Below n w (w'.drewN a) := ⟨h.os, h.tape, h.output, h.size, h.block⟩
theorem all_lt32 {T : Nat} (h : T ≤ 5) : allB T < 32 := by
  have h1 : 2 ^ T ≤ 2 ^ 5 := Nat.pow_le_pow_right (by omega) h
  have := Nat.two_pow_pos T
  unfold allB; omega
theorem and_bit (A q : Nat) (hA : A < 2 ^ 32) (hq : q < 32) : (bits .and .u32 ((A : Int) / 2 ^ min q 32) 1 == 0) = !A.testBit q := by
  rw [Nat.min_eq_left (Nat.le_of_lt hq)]
  have h1 : (A : Int) / 2 ^ q = ((A / 2 ^ q : Nat) : Int) := by rw [Int.natCast_ediv]; simp
  have h2 : A / 2 ^ q ≤ A := Nat.div_le_self _ _
  have h3 : bits .and .u32 ((A / 2 ^ q : Nat) : Int) ((1 : Nat) : Int) = ((A / 2 ^ q &&& 1 : Nat) : Int) := u32_and_nat _ _ (by omega) (by decide)
  rw [h1]
  have h4 : bits .and .u32 ((A / 2 ^ q : Nat) : Int) 1 = ((A / 2 ^ q % 2 : Nat) : Int) := by rw [← Nat.and_one_is_mod]; exact h3
  rw [h4, Nat.testBit_eq_decide_div_mod_eq]
  rcases Nat.mod_two_eq_zero_or_one (A / 2 ^ q) with h | h <;> rw [h] <;> rfl
theorem range_dC {W : World} {b : Nat} {d : Dl} (h : W.heap[b]? = some (.cells (dC d).toArray 62 (0, 0))) : W.rangeAt b 0 (dC d) := fun j v hv => by
  rw [Nat.zero_add]
  exact cells_box32 h hv
theorem step_append_run {P : Program} {ops : Array Oper} {o : Oper} {a : Act} {w : World} {K : Act → World → Prop} {Q : Exit → Act → World → Prop} {E : Prop} (hgd : o.guard = none) (s x : Operand) (t : TypeId)
    (ho : o.op = .call { callee := .builtin .append, args := #[s, x], argTypes := #[t, t] }) (vs vx : Value) (hs : a.eval s = vs) (hx : a.eval x = vx)
    (v' : Value) (w' : World) (hr : (Builtin.append_ #[t, t] o.type #[vs, vx]).run P w = .ok v' w') (h : K (a.put o.dst v') w') :
    if Region.wanted o (yielded ops a.tmps) = true then Oper.wp P o a w K Q else E := by
  have hw : Region.wanted o (yielded ops a.tmps) = true := by simp [Region.wanted, hgd]
  rw [if_pos hw]
  exact Lib.wp_append_run w s x t t ho vs vx hs hx v' w' hr h
theorem step_load {P : Program} {ops : Array Oper} {o : Oper} {a : Act} {w : World} {K : Act → World → Prop} {Q : Exit → Act → World → Prop} {E : Prop} (hgd : o.guard = none) (ty : TypeId) (x : Operand)
    (ho : o.op = .load ty x) (b n : Nat) (hx : a.eval x = .pointer (some ⟨b, n, none⟩)) (cs : List Value) (d : TypeDesc) (hc : w.rangeAt b n cs) (hu : P.underlying ty = some d) (hd : d.isRow = true) (hi : (P.info? ty).map (·.size) = some cs.length)
    (h : K (a.put o.dst (.agg cs.toArray)) w) : if Region.wanted o (yielded ops a.tmps) = true then Oper.wp P o a w K Q else E := by
  have hw : Region.wanted o (yielded ops a.tmps) = true := by simp [Region.wanted, hgd]
  rw [if_pos hw]
  exact wp_load_mid ty x ho b n hx cs d hc hu hd hi h
/-- The stack behind push. -/
def pushd (f : Nat → Nat → Nat) (K T : Nat) (st : List Dl) (d : Dl) : List Dl := if (abN f K d.v.length d.left d.has K).testBit (allB T) then st ++ [d] else st
/-- A deal that may be. -/
structure Dl.Ok (d : Dl) (K T : Nat) : Prop where
  made : d.v.length ≤ K * T
  left : d.left.length = K
  six : ∀ j, d.left.getD j 0 ≤ 6
  has : d.has < 32
set_option maxRecDepth 100000 in
set_option maxHeartbeats 4000000 in
theorem push_any (X K T ck : Nat) (pk : Option Addr) (k : List Nat) (f : Nat → Nat → Nat) (base : Nat) (v : Value) (st : List Dl) (d : Dl) (w : World) (hk : k.length = T) (hK : K ≤ 5) (hT : T ≤ 5) (hf : Sv k f) (hX : DlAt w X K pk T ck f) (hd : d.Ok K T) (hS : Stk base w v st) (hn : st.length + 1 ≤ 1000000) (hb : base ≤ w.heap.size) (hTab : Tab w) :
    Calls Tryd.prog 29 #[.pointer (some ⟨X, 0, none⟩), v, dV d] w fun e w' => ∃ v', e = .returned v' ∧ Stk base w' v' (pushd f K T st d) ∧ Fr (fun q => v.ownBlock = some q) w w' ∧ (v'.ownBlock = v.ownBlock ∨ ∃ q, v'.ownBlock = some q ∧ w.heap.size ≤ q) := by
  subst hk
  obtain ⟨W0, hW0⟩ : ∃ W0, w.alloc (.cells (dC d).toArray 62) = W0 := ⟨_, rfl⟩
  have hb0 : Below w.heap.size w W0 := by rw [← hW0]; exact alloc_below0 _ _
  have X0 : W0.heap[w.heap.size]? = some (.cells (dC d).toArray 62 (0, 0)) := by rw [← hW0]; exact World.alloc_heap_new w _
  have D0 := hX.below hb0
  have T0 : Tab W0 := hTab.below hb0
  have S0 := hS.below hb0
  have h31 := cells_box32 X0 (dC_has d)
  have h25 := cells_box32 X0 (dC_made d)
  have hx0 := D0.kinds
  have HX := hid X0; have HD := hid D0; have HT := hid T0; have HS := hid S0; have HOK := hid hd; have HF := hid hf; have HW := hid hW0; have HB := hid hb0; have HSS := hid hS
  have hsz : W0.heap.size = w.heap.size + 1 := by rw [← hW0, World.size_alloc]
  have hh : ((2 : Int) ^ min d.has 32 % 4294967296) = ((2 ^ d.has : Nat) : Int) := by
    have h5 := shl_u32 d.has hd.has
    rw [IntKind.wrap_u32'] at h5
    rw [Nat.min_eq_left (Nat.le_of_lt hd.has)]
    exact h5
  clear hX hTab hS X0 D0 T0 S0 hd hf hb0
  go_enter Tryd.func29, Tryd.ntmps29
  go_wp2_with fail
  clear hW0
  go_loopw [7, 8, 9, 17] (fun a _ _ kv wr => ∃ κ : Nat, κ ≤ K ∧ kv = .int .i64 (κ : Int) ∧ a = .int .u32 ((abN f K d.v.length d.left d.has κ : Nat) : Int) ∧ Below W0.heap.size W0 wr ∧ wr.heap.size = W0.heap.size) (fun _ _ _ kv _ => K - (intOf kv).toNat)
  case atStart => exact ⟨0, Nat.zero_le _, rfl, by rw [hh]; rfl, Below.refl _ _, rfl⟩
  case round =>
    obtain ⟨κ, hκ, rfl, rfl, hbr, hsr⟩ := hrel
    obtain ⟨A, hA⟩ : ∃ A, abN f K d.v.length d.left d.has κ = A := ⟨_, rfl⟩
    have HA := hid hA
    have hAlt : A < 2 ^ 32 := by rw [← hA]; exact ab_lt HF.out HOK.out.made (fun j _ => HOK.out.six j) HOK.out.has κ hκ
    rw [hA]
    clear hA
    have HBR := hid hbr; have HSR := hid hsr
    have X1 : wr.heap[w.heap.size]? = some (.cells (dC d).toArray 62 (0, 0)) := (hbr.block _ (by omega)).trans HX.out
    have D1 := HD.out.below hbr
    have HTT := hid (HT.out.below hbr)
    clear h31 h25 hx0 hbr hsr
    by_cases hlt : κ < K
    · have hlen : d.v.length ≤ 25 := by
        have h1 := HOK.out.made
        have h2 : K * k.length ≤ 5 * 5 := Nat.mul_le_mul hK hT
        omega
      have h26 := cells_box32 X1 (dC_left d (show κ < 5 by omega))
      have h25 := cells_box32 X1 (dC_made d)
      have hx0 := D1.kinds
      have hsix := HOK.out.six κ
      obtain ⟨L, hL⟩ : ∃ L, d.left.getD κ 0 = L := ⟨_, rfl⟩
      rw [hL] at h26 hsix
      have ht := turn_le (K := K) (T := k.length) (p := d.v.length) hlt HOK.out.made
      obtain ⟨p, hp⟩ : ∃ p, d.v.length = p := ⟨_, rfl⟩
      rw [hp] at h25 ht hlen
      have hq : ((p : Int) + (K : Int) - 1 - (κ : Int)) / (K : Int) = ((turnN K p κ : Nat) : Int) := by
        unfold turnN
        rw [Int.natCast_ediv]
        congr 1
        omega
      obtain ⟨t, htt⟩ : ∃ t, turnN K p κ = t := ⟨_, rfl⟩
      rw [htt] at hq ht
      have hs := D1.served (t := t) (n := L) (by omega) (by omega)
      have hfl := HF.out.lt t L ht hsix
      have HJ : Hid (∀ W : World, W.heap = wr.heap → Calls Tryd.prog 37 #[.int .u32 (A : Int), .int .u32 (f t L : Int)] W fun e w' => e = .returned (.int .u32 (joinN A (f t L))) ∧ w' = W) := hid fun W hW => joined_any A (f t L) W hAlt hfl (fun i hi => by have := HTT.out i hi; unfold World.cell? at this ⊢; rw [hW]; exact this)
      have HJ1 : Hid (∀ n, Calls Tryd.prog 37 #[.int .u32 (A : Int), .int .u32 (f t L : Int)] (wr.drewN n) fun e w' => e = .returned (.int .u32 (joinN A (f t L))) ∧ w' = wr.drewN n) := hid fun n => HJ.out _ rfl
      clear X1 D1 HJ
      go_wp2_with fail
      go_big_quiet (fail)
      go_wp2_with fail
      go_big_quiet ((first | (go_at_call 37; refine (HJ1.out _).mono ?_; rintro e w2 ⟨rfl, rfl⟩; exact ⟨rfl, _, rfl⟩) | fail))
      go_wp2_with fail
      go_roundw
      case rel => exact ⟨κ + 1, by omega, by go_num, by rw [abN, HA.out, hp, htt, hL], below_drewN1 HBR.out _, HSR.out⟩
      case measure => simp [intOf]; omega
    · have e : κ = K := by omega
      subst e
      have HEV := hid (everybody_any pk k.length ck wr hT)
      have hx1 := D1.often
      have hab := and_bit A (allB k.length) hAlt (all_lt32 hT)
      have HAB : Hid (pushd f κ k.length st d = if A.testBit (allB k.length) then st ++ [d] else st) := hid (by unfold pushd; rw [HA.out])
      have HS1 := hid (HS.out.below HBR.out)
      clear HTT
      cases htb : A.testBit (allB k.length) with
      | false =>
        rw [htb] at hab HAB
        go_wp2_with fail
        refine HEV.out.mono ?_
        rintro e w1 ⟨rfl, rfl⟩
        go_wp2_with fail
        go_ret
        refine ⟨v, rfl, ?_, Fr.of_below (HB.out.trans (HBR.out.mono HB.out.size)), .inl rfl⟩
        rw [HAB.out]
        exact HSS.out.below (HB.out.trans (HBR.out.mono HB.out.size))
      | true =>
        rw [htb] at hab HAB
        have hb1 : Below wr.heap.size wr (wr.alloc (.cells (dC d).toArray 62)) := alloc_below0 _ _
        obtain ⟨v', w', hr, h2, h3, h4⟩ := run_appD 63 base v st d _ (HS1.out.below hb1) wr.heap.size (World.alloc_heap_new wr _) hn (by rw [World.size_alloc, HSR.out]; omega)
        have HLD := hid (range_dC X1)
        have HR2 := hid h2; have HR3 := hid h3; have HR4 := hid h4
        have HRUN := hid hr
        clear h2 h3 h4 X1 hr
        go_wp2_with fail
        refine HEV.out.mono ?_
        rintro e w1 ⟨rfl, rfl⟩
        go_upto_region 10 with (fail)
        refine wp_region_lit ?_
        refine wpList_step fun K hK => ?_
        have HK := hid hK
        clear hK
        go_simp
        refine HK.out _ _ ?_
        clear HK
        refine wpList_step fun K hK => ?_
        refine step_load rfl 62 (.tmp 5) rfl w.heap.size 0 (by rfl) (dC d) _ HLD.out Tryd.underlying62 rfl size62 ?_
        refine hK _ _ ?_
        clear hK
        refine wpList_step fun K hK => ?_
        have HK := hid hK
        clear hK
        have hf32 := fold32 d
        have hl32 := dC_len d
        go_simp
        clear hf32 hl32
        refine HK.out _ _ ?_
        clear HK
        refine wpList_step fun K hK => ?_
        refine step_append_run rfl (.tmp 59) (.tmp 61) 63 rfl _ _ (by rfl) (by rfl) _ _ HRUN.out ?_
        refine hK _ _ ?_
        clear hK
        go_wp2_with fail
        go_ret
        refine ⟨v', rfl, by rw [HAB.out]; exact HR2.out, ?_, ?_⟩
        · refine (Fr.of_below (HB.out.trans (HBR.out.mono HB.out.size))).trans ((Fr.of_below hb1).trans HR3.out)
        · rcases HR4.out with h | h
          · exact .inl h
          · exact .inr ⟨_, h, by rw [World.size_alloc, HSR.out]; omega⟩
end Go.Proofs.YtdpdpjfnanjmgaaDoor
