/- For every signature and every term DeriveDown returns true: Down of the program answers as the document's does, step by step, its steps lead to the term it tells, and what was handed in stays; no condition. -/
import Derived.WalkSmall
import Derived.Deep.RegionHeld3
import Derived.Deep.DeepCutAuto
import Derived.Test.YtokbgbbkopmngaaTRChkB
import Derived.Test.YtokbgbbkopmngaaDvR
import Derived.Test.YtokbgbbkopmngaaKDvH
import Derived.Test.YtokbgbbkopmngaaKDvLb
import Derived.Test.YtokbgbbkopmngaaKDwP
/- The walk's strip. -/
namespace Go.Proofs.Ytokbgbbkopmngaa
open Go.RowKit Go.Deep

def pfx (ps : List Int) (b : Bs) : Bs := ⟨ps ++ b.path, b.sp, b.back⟩
theorem pfx_snoc (vs : List Wv) (l : List Bs) (ps : List Int) (p q : Sp) : (vs.map Wv.b ++ l.map (pfx ps)) ++ [(⟨ps, p, q⟩ : Bs)] = vs.map Wv.b ++ (l ++ [(⟨[], p, q⟩ : Bs)]).map (pfx ps) := by
  rw [List.map_append, List.append_assoc]
  simp [pfx]
theorem pfx_ls (ls l : List Bs) (ps : List Int) (p q : Sp) : (ls ++ l.map (pfx ps)) ++ [(⟨ps, p, q⟩ : Bs)] = ls ++ (l ++ [(⟨[], p, q⟩ : Bs)]).map (pfx ps) := by
  rw [List.map_append, List.append_assoc]
  simp [pfx]
theorem least_n (p : Nat → Prop) : ∀ n, p n → ∃ m, p m ∧ ∀ k, p k → m ≤ k := by
  classical
  intro n
  induction n using Nat.strongRecOn with
  | _ n ih =>
    intro hn
    by_cases h : ∃ k, k < n ∧ p k
    · obtain ⟨k, hk, hp⟩ := h
      exact ih k hk hp
    · exact ⟨n, hn, fun k hk => Decidable.byContradiction fun hlt => h ⟨k, by omega, hk⟩⟩
theorem count_of2 (I : Nat → Value → Value → World → Prop) : ∃ mu : Value → Value → World → Nat, ∀ a b W f, I f a b W → I (mu a b W) a b W ∧ mu a b W ≤ f := by
  classical
  refine ⟨fun a b W => if h : ∃ f, I f a b W then Classical.choose (least_n (fun f => I f a b W) _ (Classical.choose_spec h)) else 0, fun a b W f hf => ?_⟩
  have h : ∃ f, I f a b W := ⟨f, hf⟩
  have hs := Classical.choose_spec (least_n (fun f => I f a b W) _ (Classical.choose_spec h))
  dsimp only
  rw [dif_pos h]
  exact ⟨hs.1, hs.2 f hf⟩
theorem Res.below {W W1 W2 : World} {X X1 : Bl} {N0 b o : Nat} {A A1 : Bl} {cur cur1 : Array Value} {B : Nat} {S : Option Addr} {n cap : Nat} {ps : List Int} {x1 : ByteArray × Int} {l1 : List Tn} {ls1 : List Bs} {a1 : Option Addr} {c1 : Nat} {ks1 : List Kv} {vs1 : List Wv} {pv1 sv1 bv1 : Value}
    (h : Res W X N0 b o A cur B S n cap ps x1 l1 ls1 A1 X1 a1 c1 ks1 cur1 vs1 pv1 sv1 bv1 W1) (hb : Below W1.heap.size W1 W2) : Res W X N0 b o A cur B S n cap ps x1 l1 ls1 A1 X1 a1 c1 ks1 cur1 vs1 pv1 sv1 bv1 W2 := by
  have := h.trans (Res.self h.nod h.wk hb)
  rw [h.list] at this
  exact this
/-- One of a node's arguments, in memory. -/
theorem nod_kid {W : World} {X : Bl} {N0 b o : Nat} {A : Bl} {x : ByteArray × Int} {l : List Tn} {a : Option Addr} {c : Nat} {ks : List Kv} {cur : Array Value} (h : Nod W X N0 b o A x l a c ks cur) {i : Nat} {y : Tn} (hy : l[i]? = some y) :
    ∃ g kv, a = some ⟨g, 0, none⟩ ∧ ks[i]? = some kv ∧ kv.tn = y ∧ W.cell? ⟨g, i * 3 + 2, none⟩ = some (.slice kv.a (lenF y.2) kv.c) ∧ i < c ∧ c ≤ maxLen ∧ ks.length = l.length := by
  have hk := h.kids
  rw [← hk, List.getElem?_map] at hy
  cases hkv : ks[i]? with
  | none => rw [hkv] at hy; cases hy
  | some kv =>
    rw [hkv] at hy
    have hy : some kv.tn = some y := hy
    cases hy
    have hi : i < ks.length := (List.getElem?_eq_some_iff.1 hkv).1
    rcases h.pl.row.row with ⟨e, _⟩ | ⟨g, e, _, hR, _⟩
    · rw [e] at hi; simp at hi
    · exact ⟨g, kv, e, rfl, rfl, hR.cells (kv_cells hkv).2.2, Nat.lt_of_lt_of_le hi hR.fits, hR.small, by rw [← hk, List.length_map]⟩
/-- What strip leaves. -/
def StripEnd (S' : Sg) (ar : Int → Nat) (x : ByteArray × Int) (H M T : List Tn) (W : World) (X : Bl) (N0 b o : Nat) (A : Bl) (cur : Array Value) (B : Nat) (S : Option Addr) (n cap : Nat) (ps : List Int) (ls : List Bs) (e : Ending) (W' : World) : Prop :=
  (∃ D l1, e = .returned (.tuple #[.int .i64 ((H.length + D.length : Nat) : Int), .bool true]) ∧ SpSt S' ar x H M T [] D l1 ∧ ResE W X N0 b o A cur B S n cap ps x (H ++ (D ++ T)) (ls ++ l1.map (pfx ps)) W') ∨
  (∃ z l1, e = .returned (.tuple #[.int .i64 0, .bool false]) ∧ SpNo S' x H M T z l1 ∧ ResE W X N0 b o A cur B S n cap ps z.1 (kidsL z.2) (ls ++ l1.map (pfx ps)) W')
/-- strip's loop. -/
def StpSt (S' : Sg) (ar : Int → Nat) (x : ByteArray × Int) (H M T : List Tn) (W : World) (X : Bl) (N0 b o : Nat) (A : Bl) (cur : Array Value) (B : Nat) (S : Option Addr) (n cap : Nat) (ps : List Int) (ls : List Bs) (f : Nat) (tv at_ : Value) (wr : World) : Prop :=
  ∃ (U D : List Tn) (l1 : List Bs), f = sizes U ∧ at_ = .int .i64 (((H ++ U).length : Int) - 1) ∧ tv = .int .i64 (((H ++ U).length : Int) + (D.length : Int)) ∧ SpSt S' ar x H M T U D l1 ∧ ResE W X N0 b o A cur B S n cap ps x (H ++ (U ++ (D ++ T))) (ls ++ l1.map (pfx ps)) wr
theorem step_none {S : Sg} {x : ByteArray × Int} (U R : List Tn) {y : Tn} (h : ¬ (gaX S x = true ∧ headed x.2 y = true)) : stepN S (nd x (U ++ y :: R)) (flatP U.length) = none := by
  cases hh : headed x.2 y with
  | false => exact flat_no U R hh
  | true =>
    cases hg : gaX S x with
    | false => exact step_free hg _ (by show ¬ (1 : Int) = 5; decide)
    | true => exact absurd ⟨hg, hh⟩ h
theorem drop_none {S : Sg} {x : ByteArray × Int} (U R : List Tn) {y : Tn} (h : ¬ (gaX S x = true ∧ isUn S x.2 y = true)) : stepN S (nd x (U ++ y :: R)) (dropP U.length) = none := by
  cases hh : isUn S x.2 y with
  | false => exact drop_no U R hh
  | true =>
    cases hg : gaX S x with
    | false => exact step_free hg _ (by show ¬ (4 : Int) = 5; decide)
    | true => exact absurd ⟨hg, hh⟩ h
theorem snoc_cases (l : List Tn) : l = [] ∨ ∃ r y, l = r ++ [y] := by
  by_cases h : l = []
  · exact .inl h
  · exact .inr ⟨l.dropLast, l.getLast h, (List.dropLast_concat_getLast h).symm⟩
theorem nodes_nd (x : ByteArray × Int) (l : List Tn) : nodesF (nd x l).2 = sizes l := by unfold nd; exact nodes_mk l

set_option maxRecDepth 100000 in
set_option maxHeartbeats 8000000 in
theorem strip_any (w0 : World) (S : Option Addr) (n cap B b o : Nat) (L : List Sym) (ar : Int → Nat) (X A : Bl) (x : ByteArray × Int) (H M T : List Tn) (a : Option Addr) (c : Nat) (ks : List Kv) (cur : Array Value) (ps : List Int) (vs : List Wv) (pv sv bv : Value) (W : World)
    (hS : SigAt w0 S n L) (hb : Below w0.heap.size w0 W) (hN : Nod W X w0.heap.size b o A x (H ++ (M ++ T)) a c ks cur) (hK : Wk W X w0.heap.size B S n cap ps vs pv sv bv) (hn : sizes (H ++ (M ++ T)) ≤ 1000000) (hps : ps.length ≤ 1000000) (hvs : vs.length + sizes M ≤ 1000000) :
    Calls Try.prog 60 #[.pointer (some ⟨B, 0, none⟩), .pointer (some ⟨b, o, none⟩), .int .i64 (H.length : Int), .int .i64 ((H.length : Int) + (M.length : Int))] W (StripEnd (sgOf L) ar x H M T W X w0.heap.size b o A cur B S n cap ps (vs.map Wv.b)) := by
  obtain ⟨ls, hls⟩ : ∃ ls, vs.map Wv.b = ls := ⟨_, rfl⟩
  rw [hls]
  have hlsl : ls.length = vs.length := by rw [← hls, List.length_map]
  have hst0 : StpSt (sgOf L) ar x H M T W X w0.heap.size b o A cur B S n cap ps ls (sizes M) (.int .i64 (((H ++ M).length : Int) + (([] : List Tn).length : Int))) (.int .i64 (((H ++ M).length : Int) - 1)) W := by
    refine ⟨M, [], [], rfl, rfl, rfl, SpSt.start, A, X, a, c, ks, cur, vs, pv, sv, bv, ?_⟩
    have := Res.self hN hK (Below.refl _ W)
    rw [hls] at this
    simpa using this
  obtain ⟨mu, hmu⟩ := count_of2 (StpSt (sgOf L) ar x H M T W X w0.heap.size b o A cur B S n cap ps ls)
  have HML : Hid (M.length ≤ 1000000 ∧ H.length ≤ 1000000) := hid (by
    have h1 := len_sizes (H ++ (M ++ T))
    simp only [List.length_append] at h1
    exact ⟨by omega, by omega⟩)
  have HST0 := hid hst0; have HMU := hid hmu; have HS := hid hS; have HB := hid hb; have HNo := hid hN; have HKo := hid hK; have HN := hid hn; have HPS := hid hps
  have HVS : Hid (ls.length + sizes M ≤ 1000000) := hid (by omega)
  have e1 : ((H ++ M).length : Int) = (H.length : Int) + (M.length : Int) := by rw [List.length_append]; omega
  rw [e1] at HST0
  have e2 : (H.length : Int) + (M.length : Int) + (([] : List Tn).length : Int) = (H.length : Int) + (M.length : Int) := by simp
  rw [e2] at HST0
  have hMl := HML.out
  obtain ⟨hl, hhl⟩ : ∃ hl : Int, (H.length : Int) = hl := ⟨_, rfl⟩
  obtain ⟨ml, hml⟩ : ∃ ml : Int, (M.length : Int) = ml := ⟨_, rfl⟩
  rw [hhl, hml] at HST0 ⊢
  have b1 : 0 ≤ hl ∧ hl ≤ 1000000 := by omega
  have b2 : 0 ≤ ml ∧ ml ≤ 1000000 := by omega
  have HHL := hid hhl
  clear hst0 hmu hS hb hN hK hn hps hvs hls hlsl e1 e2 hMl hhl hml
  go_enter Try.func60, Try.ntmps60
  go_wp2_with fail
  go_loopw [3, 10, 11, 12] (fun tv at_ _ _ wr => ∃ f, StpSt (sgOf L) ar x H M T W X w0.heap.size b o A cur B S n cap ps ls f tv at_ wr) (fun tv at_ _ _ wr => mu tv at_ wr)
  case atStart => exact ⟨_, HST0.out⟩
  case round =>
    obtain ⟨f, hrs⟩ := hrel
    have hst := (HMU.out _ _ _ _ hrs).1
    clear hrs HST0
    obtain ⟨U, D, l1, hf, hat, hto, hsp, A', X', a', c', ks', cur', vs', pv', sv', bv', hres⟩ := hst
    have hcost := hsp.cost
    have hvl : vs'.length = ls.length + l1.length := by
      have := congrArg List.length hres.list
      simpa using this
    have hDl := len_sizes D
    have hVS := HVS.out
    have hHM := HML.out
    rcases snoc_cases U with rfl | ⟨U1, y, rfl⟩
    · obtain ⟨dl, hdl⟩ : ∃ dl : Int, (D.length : Int) = dl := ⟨_, rfl⟩
      have e1 : ((H ++ ([] : List Tn)).length : Int) = hl := by rw [List.append_nil]; exact HHL.out
      rw [e1] at hat hto
      rw [hdl] at hto
      have b3 : 0 ≤ dl ∧ dl ≤ 1000000 := by omega
      obtain ⟨ai, hai⟩ : ∃ ai : Int, hl - 1 = ai := ⟨_, rfl⟩
      rw [hai] at hat
      have hc : ¬ (hl ≤ ai) := by omega
      subst hat hto
      have HSP := hid hsp; have HRES := hid hres; have HDL := hid hdl
      clear hf hsp hres hdl hcost hvl hDl hVS hHM e1 hai
      go_wp2
      refine bodyPost_ret (results_tmp2 rfl _ _ _) rfl ?_
      refine .inl ⟨D, l1, ?_, HSP.out, A', X', a', c', ks', cur', vs', pv', sv', bv', HRES.out⟩
      rw [show ((H.length + D.length : Nat) : Int) = hl + dl by have := HHL.out; have := HDL.out; omega]
      rfl
    · obtain ⟨i, hi⟩ : ∃ i : Nat, (H ++ U1).length = i := ⟨_, rfl⟩
      obtain ⟨ti, hti⟩ : ∃ ti : Int, (i : Int) + 1 + (D.length : Int) = ti := ⟨_, rfl⟩
      have e0 : (H ++ (U1 ++ [y])).length = i + 1 := by rw [← List.append_assoc, List.length_append, hi]; rfl
      rw [e0] at hat hto
      rw [show ((i + 1 : Nat) : Int) - 1 = (i : Int) by omega] at hat
      rw [show ((i + 1 : Nat) : Int) + (D.length : Int) = ti by omega] at hto
      rw [sizes_append, sizes_cons, sizes_nil] at hcost hf
      have hU1 := len_sizes U1
      have hHl : H.length ≤ i := by rw [← hi, List.length_append]; omega
      have hil : i ≤ 2000000 := by rw [← hi, List.length_append]; omega
      have b3 : 0 ≤ ti ∧ ti ≤ 4000000 := by omega
      have hc : hl ≤ (i : Int) := by have := HHL.out; omega
      have hle : H ++ ((U1 ++ [y]) ++ (D ++ T)) = (H ++ U1) ++ y :: (D ++ T) := mid_eq H U1 D T y
      rw [hle] at hres
      have hget : ((H ++ U1) ++ y :: (D ++ T))[i]? = some y := by rw [← hi]; exact at_get _ _ _
      obtain ⟨g, kv, rfl, hkv, hky, hcell, hic, hcm, hksl⟩ := nod_kid hres.nod hget
      have n2 := hres.nod.pl.nd.list
      obtain ⟨N, hN⟩ : ∃ N : Nat, ks'.length = N := ⟨_, rfl⟩
      rw [hN] at n2
      have hNl : N = (H ++ U1).length + 1 + (D ++ T).length := by rw [← hN, hksl, List.length_append, List.length_cons]; omega
      have hiN : (i : Int) < (N : Int) := by omega
      have hi0 : (0 : Int) ≤ (i : Int) := by omega
      obtain ⟨inn, hinn⟩ : ∃ inn : Nat, lenF y.2 = inn := ⟨_, rfl⟩
      rw [hinn] at hcell
      have hinb : inn ≤ 1000000 := by
        have h1 := sizes_kids y
        have h2 := len_sizes (kidsL y.2)
        rw [kids_len] at h2
        omega
      have hNb : N ≤ 3000000 := by
        have h1 := len_sizes (H ++ (M ++ T))
        have h2 := HN.out
        simp only [List.length_append] at h1 hNl hi
        omega
      unfold maxLen at hcm
      subst hat hto
      have HSP := hid hsp; have HRES := hid hres; have HF := hid hf; have HI := hid hi; have HTI := hid hti; have HNL := hid hNl; have HINN := hid hinn; have HVL := hid hvl; have HCO := hid hcost
      have m2 := later_cell n2; have k2 := later_cell hcell
      have hne := later_some wr
      clear hsp hres hf hi hti hNl hinn hvl hcost hle hget hkv hky hksl hN n2 hcell e0 hU1 hHl hDl hVS hHM
      go_wp2_with fail
      refine wp_region_later (by kernel_rfl) (by kernel_rfl) ?_
      repeat (go_big_quiet_step (fail))
      refine wpQuiet_nil ?_
      intro _ hw'
      obtain ⟨b2, hw''⟩ := hw'
      subst hw''
      obtain ⟨V, hV⟩ : ∃ V, b2.now = V := ⟨_, rfl⟩
      have hbV : Below wr.heap.size wr V := by rw [← hV]; exact b2.below
      rw [hV]
      have HBV := hid hbV
      clear hV hbV m2 k2 hne
      have HTRY : Hid (∀ V', Below wr.heap.size wr V' → ∀ p, Calls Try.prog 76 #[.pointer (some ⟨B, 0, none⟩), .pointer (some ⟨b, o, none⟩), stepV p none 0 0] V' fun e W' => match stepN (sgOf L) (nd x ((H ++ U1) ++ y :: (D ++ T))) p with
          | none => e = .returned (.bool false) ∧ Below V'.heap.size V' W'
          | some r => e = .returned (.bool true) ∧ ResE V' X' w0.heap.size b o A' cur' B S n cap ps r.1.1 (kidsL r.1.2) (vs'.map Wv.b ++ [⟨ps, p, r.2⟩]) W') := hid (fun V' hV' p => by
        have hR := HRES.out.below hV'
        have hlow := Res.low HB.out HNo.out HKo.out hR
        refine try_any w0 S n cap B b o L X' A' x _ _ c' ks' cur' ps vs' pv' sv' bv' p V' HS.out hlow hR.nod hR.wk ?_ (by have := HPS.out; omega) (by have := HVL.out; have := HVS.out; have := HCO.out; omega)
        rw [nodes_nd, ← mid_eq H U1 D T y, sizes_append, sizes_append, sizes_append, sizes_append]
        have h1 := HN.out
        have h2 := HCO.out
        rw [sizes_append, sizes_append] at h1
        rw [sizes_cons, sizes_nil]
        omega)
      by_cases hfl : gaX (sgOf L) x = true ∧ headed x.2 y = true
      · have HC1 : Hid (Calls Try.prog 76 #[.pointer (some ⟨B, 0, none⟩), .pointer (some ⟨b, o, none⟩), .agg #[.int .i64 1, .slice none 0 0, .int .i64 (i : Int), .int .i64 0, .int .i64 0]] V fun e W' => e = .returned (.bool true) ∧ ResE V X' w0.heap.size b o A' cur' B S n cap ps x ((H ++ U1) ++ (kidsL y.2 ++ (D ++ T))) (vs'.map Wv.b ++ [(⟨ps, ⟨1, i, 0, 0⟩, ⟨2, i, lenF y.2, 0⟩⟩ : Bs)]) W') := hid (by
          have := HTRY.out V HBV.out ⟨1, i, 0, 0⟩
          have hst := flat_yes hfl.1 (H ++ U1) (D ++ T) hfl.2
          rw [HI.out] at hst
          rw [hst] at this
          have this : Calls Try.prog 76 #[.pointer (some ⟨B, 0, none⟩), .pointer (some ⟨b, o, none⟩), stepV ⟨1, i, 0, 0⟩ none 0 0] V fun e W' => e = .returned (.bool true) ∧ ResE V X' w0.heap.size b o A' cur' B S n cap ps x (kidsL (nd x ((H ++ U1) ++ (kidsL y.2 ++ (D ++ T)))).2) (vs'.map Wv.b ++ [(⟨ps, ⟨1, i, 0, 0⟩, ⟨2, i, lenF y.2, 0⟩⟩ : Bs)]) W' := this
          rw [show kidsL (nd x ((H ++ U1) ++ (kidsL y.2 ++ (D ++ T)))).2 = _ from kids_mk _] at this
          exact this)
        go_wp2_with (first | (go_at_call 76; refine HC1.out.mono ?_; rintro e w5 ⟨rfl, hR5⟩; have HR5 := hid hR5; clear hR5) | fail)
        have HNW : Hid (StpSt (sgOf L) ar x H M T W X w0.heap.size b o A cur B S n cap ps ls (sizes (U1 ++ kidsL y.2)) (.int .i64 (ti + ((inn : Int) - 1))) (.int .i64 ((i : Int) + (inn : Int) - 1)) w5) := hid (by
          obtain ⟨A2, X2, a2, c2, ks2, cur2, vs2, pv2, sv2, bv2, hr2⟩ := HR5.out
          have hr := (HRES.out.below HBV.out).trans hr2
          have hkl : (kidsL y.2).length = inn := by rw [kids_len]; exact HINN.out
          refine ⟨U1 ++ kidsL y.2, D, l1 ++ [⟨[], flatP (H ++ U1).length, ⟨2, (H ++ U1).length, lenF y.2, 0⟩⟩], rfl, ?_, ?_, HSP.out.flat hfl.1 hfl.2, A2, X2, a2, c2, ks2, cur2, vs2, pv2, sv2, bv2, ?_⟩
          · rw [← List.append_assoc, List.length_append, HI.out, hkl]; exact congrArg (Value.int .i64) (by omega)
          · rw [← List.append_assoc, List.length_append, HI.out, hkl]; exact congrArg (Value.int .i64) (by have := HTI.out; omega)
          · have e := hr.list
            rw [HRES.out.list] at hr
            rw [show H ++ ((U1 ++ kidsL y.2) ++ (D ++ T)) = (H ++ U1) ++ (kidsL y.2 ++ (D ++ T)) by simp, ← pfx_ls, HI.out]
            exact hr)
        clear HRES HTRY HC1
        go_roundw
        case rel => exact ⟨_, HNW.out⟩
        case measure =>
          have h1 := (HMU.out _ _ _ _ HNW.out).2
          have h2 := HF.out
          have h3 := sizes_kids y
          rw [sizes_append] at h1
          omega
      · have HC1 : Hid (Calls Try.prog 76 #[.pointer (some ⟨B, 0, none⟩), .pointer (some ⟨b, o, none⟩), .agg #[.int .i64 1, .slice none 0 0, .int .i64 (i : Int), .int .i64 0, .int .i64 0]] V fun e W' => e = .returned (.bool false) ∧ Below V.heap.size V W') := hid (by
          have := HTRY.out V HBV.out ⟨1, i, 0, 0⟩
          rw [show stepN (sgOf L) (nd x ((H ++ U1) ++ y :: (D ++ T))) ⟨1, i, 0, 0⟩ = none by rw [← HI.out]; exact step_none (H ++ U1) (D ++ T) hfl] at this
          exact this)
        by_cases hun : gaX (sgOf L) x = true ∧ isUn (sgOf L) x.2 y = true
        · by_cases hone : (H ++ U1).length + (D ++ T).length = 1
          · obtain ⟨z, hz⟩ : ∃ z, (H ++ U1) ++ (D ++ T) = [z] := List.length_eq_one_iff.1 (by rw [List.length_append]; exact hone)
            have hN2 : (N : Int) = 2 := by have := HNL.out; omega
            have HC4 : Hid (∀ w5, Below wr.heap.size wr w5 → Calls Try.prog 76 #[.pointer (some ⟨B, 0, none⟩), .pointer (some ⟨b, o, none⟩), .agg #[.int .i64 4, .slice none 0 0, .int .i64 (i : Int), .int .i64 0, .int .i64 0]] w5 fun e W' => e = .returned (.bool true) ∧ ResE w5 X' w0.heap.size b o A' cur' B S n cap ps z.1 (kidsL z.2) (vs'.map Wv.b ++ [(⟨ps, ⟨4, i, 0, 0⟩, ⟨5, i, 1, x.2⟩⟩ : Bs)]) W') := hid (fun w5 h5 => by
              have := HTRY.out w5 h5 ⟨4, i, 0, 0⟩
              have hst := drop_one hun.1 (H ++ U1) (D ++ T) hun.2 hz
              rw [HI.out] at hst
              rw [hst] at this
              exact this)
            go_wp2_with (first | (go_at_call 76; refine HC1.out.mono ?_; rintro e w5 ⟨rfl, hb5⟩; have HB5 : Hid (Below wr.heap.size wr w5) := hid (HBV.out.trans (hb5.mono HBV.out.size)); clear hb5 HC1) | (go_at_call 76; refine (HC4.out w5 HB5.out).mono ?_; rintro e w6 ⟨rfl, hR6⟩; have HR6 := hid hR6; clear hR6) | fail)
            refine bodyPost_ret (results_tmp2 rfl _ _ _) rfl ?_
            obtain ⟨A2, X2, a2, c2, ks2, cur2, vs2, pv2, sv2, bv2, hr2⟩ := HR6.out
            have hr := (HRES.out.below HB5.out).trans hr2
            rw [HRES.out.list] at hr
            refine .inr ⟨z, l1 ++ [⟨[], dropP (H ++ U1).length, ⟨5, (H ++ U1).length, 1, x.2⟩⟩], rfl, HSP.out.gone hun.1 hun.2 hz, A2, X2, a2, c2, ks2, cur2, vs2, pv2, sv2, bv2, ?_⟩
            rw [← pfx_ls, HI.out]
            exact hr
          · have hN2 : ¬ (N : Int) = 2 := by have := HNL.out; have := HI.out; omega
            have HC4 : Hid (∀ w5, Below wr.heap.size wr w5 → Calls Try.prog 76 #[.pointer (some ⟨B, 0, none⟩), .pointer (some ⟨b, o, none⟩), .agg #[.int .i64 4, .slice none 0 0, .int .i64 (i : Int), .int .i64 0, .int .i64 0]] w5 fun e W' => e = .returned (.bool true) ∧ ResE w5 X' w0.heap.size b o A' cur' B S n cap ps x ((H ++ U1) ++ (D ++ T)) (vs'.map Wv.b ++ [(⟨ps, ⟨4, i, 0, 0⟩, ⟨5, i, 0, x.2⟩⟩ : Bs)]) W') := hid (fun w5 h5 => by
              have := HTRY.out w5 h5 ⟨4, i, 0, 0⟩
              have hst := drop_many hun.1 (H ++ U1) (D ++ T) hun.2 hone
              rw [HI.out] at hst
              rw [hst] at this
              have this : Calls Try.prog 76 #[.pointer (some ⟨B, 0, none⟩), .pointer (some ⟨b, o, none⟩), stepV ⟨4, i, 0, 0⟩ none 0 0] w5 fun e W' => e = .returned (.bool true) ∧ ResE w5 X' w0.heap.size b o A' cur' B S n cap ps x (kidsL (nd x ((H ++ U1) ++ (D ++ T))).2) (vs'.map Wv.b ++ [(⟨ps, ⟨4, i, 0, 0⟩, ⟨5, i, 0, x.2⟩⟩ : Bs)]) W' := this
              rw [show kidsL (nd x ((H ++ U1) ++ (D ++ T))).2 = _ from kids_mk _] at this
              exact this)
            go_wp2_with (first | (go_at_call 76; refine HC1.out.mono ?_; rintro e w5 ⟨rfl, hb5⟩; have HB5 : Hid (Below wr.heap.size wr w5) := hid (HBV.out.trans (hb5.mono HBV.out.size)); clear hb5 HC1) | (go_at_call 76; refine (HC4.out w5 HB5.out).mono ?_; rintro e w6 ⟨rfl, hR6⟩; have HR6 := hid hR6; clear hR6) | fail)
            have HNW : Hid (StpSt (sgOf L) ar x H M T W X w0.heap.size b o A cur B S n cap ps ls (sizes U1) (.int .i64 (ti - 1)) (.int .i64 ((i : Int) - 1)) w6) := hid (by
              obtain ⟨A2, X2, a2, c2, ks2, cur2, vs2, pv2, sv2, bv2, hr2⟩ := HR6.out
              have hr := (HRES.out.below HB5.out).trans hr2
              refine ⟨U1, D, l1 ++ [⟨[], dropP (H ++ U1).length, ⟨5, (H ++ U1).length, 0, x.2⟩⟩], rfl, ?_, ?_, HSP.out.drop hun.1 hun.2 hone, A2, X2, a2, c2, ks2, cur2, vs2, pv2, sv2, bv2, ?_⟩
              · rw [HI.out]
              · rw [HI.out]; exact congrArg (Value.int .i64) (by have := HTI.out; omega)
              · rw [HRES.out.list] at hr
                rw [show H ++ (U1 ++ (D ++ T)) = (H ++ U1) ++ (D ++ T) by simp, ← pfx_ls, HI.out]
                exact hr)
            clear HRES HTRY HC4
            go_roundw
            case rel => exact ⟨_, HNW.out⟩
            case measure =>
              have h1 := (HMU.out _ _ _ _ HNW.out).2
              have h2 := HF.out
              have h3 := size_pos y
              omega
        · have HC4 : Hid (∀ w5, Below wr.heap.size wr w5 → Calls Try.prog 76 #[.pointer (some ⟨B, 0, none⟩), .pointer (some ⟨b, o, none⟩), .agg #[.int .i64 4, .slice none 0 0, .int .i64 (i : Int), .int .i64 0, .int .i64 0]] w5 fun e W' => e = .returned (.bool false) ∧ Below w5.heap.size w5 W') := hid (fun w5 h5 => by
            have := HTRY.out w5 h5 ⟨4, i, 0, 0⟩
            rw [show stepN (sgOf L) (nd x ((H ++ U1) ++ y :: (D ++ T))) ⟨4, i, 0, 0⟩ = none by rw [← HI.out]; exact drop_none (H ++ U1) (D ++ T) hun] at this
            exact this)
          go_wp2_with (first | (go_at_call 76; refine HC1.out.mono ?_; rintro e w5 ⟨rfl, hb5⟩; have HB5 : Hid (Below wr.heap.size wr w5) := hid (HBV.out.trans (hb5.mono HBV.out.size)); clear hb5 HC1) | (go_at_call 76; refine (HC4.out w5 HB5.out).mono ?_; rintro e w6 ⟨rfl, hR6⟩; have HR6 := hid hR6; clear hR6) | fail)
          have HNW : Hid (StpSt (sgOf L) ar x H M T W X w0.heap.size b o A cur B S n cap ps ls (sizes U1) (.int .i64 ti) (.int .i64 ((i : Int) - 1)) w6) := hid (by
            have hb6 : Below wr.heap.size wr w6 := HB5.out.trans (HR6.out.mono HB5.out.size)
            refine ⟨U1, y :: D, l1, rfl, ?_, ?_, HSP.out.keep (fun hg => ⟨?_, ?_⟩), A', X', some ⟨g, 0, none⟩, c', ks', cur', vs', pv', sv', bv', ?_⟩
            · rw [HI.out]
            · rw [HI.out]; exact congrArg (Value.int .i64) (by have := HTI.out; rw [List.length_cons]; omega)
            · cases hh : headed x.2 y with
              | false => rfl
              | true => exact absurd ⟨hg, hh⟩ hfl
            · cases hh : isUn (sgOf L) x.2 y with
              | false => rfl
              | true => exact absurd ⟨hg, hh⟩ hun
            · rw [show H ++ (U1 ++ (y :: D ++ T)) = (H ++ U1) ++ y :: (D ++ T) by simp]
              exact HRES.out.below hb6)
          clear HRES HTRY HC4
          go_roundw
          case rel => exact ⟨_, HNW.out⟩
          case measure =>
            have h1 := (HMU.out _ _ _ _ HNW.out).2
            have h2 := HF.out
            have h3 := size_pos y
            omega
end Go.Proofs.Ytokbgbbkopmngaa
/- The walk's move; a search. -/
namespace Go.Proofs.Ytokbgbbkopmngaa
open Go.RowKit Go.Deep

theorem results_none {fn : Func} (h : fn.results = #[]) (tmps : Array Value) (P : Program) (w : World) : (results fn tmps).run P w = .ok (.tuple #[]) w := by
  simp only [results, h]
  simp
theorem pfx_one (ls : List Bs) (ps : List Int) (p q : Sp) : ls ++ [(⟨ps, p, q⟩ : Bs)] = ls ++ ([(⟨[], p, q⟩ : Bs)]).map (pfx ps) := by simp [pfx]
theorem pfx_three (ls : List Bs) (ps : List Int) (p q p2 q2 p3 q3 : Sp) : ((ls ++ [(⟨ps, p, q⟩ : Bs)]) ++ [(⟨ps, p2, q2⟩ : Bs)]) ++ [(⟨ps, p3, q3⟩ : Bs)] = ls ++ ([(⟨[], p, q⟩ : Bs), ⟨[], p2, q2⟩, ⟨[], p3, q3⟩]).map (pfx ps) := by simp [pfx]
/-- What move leaves. -/
def MovEnd (S' : Sg) (x : ByteArray × Int) (A1 A2 : List Tn) (y : Tn) (R : List Tn) (W : World) (X : Bl) (N0 b o : Nat) (A : Bl) (cur : Array Value) (B : Nat) (S : Option Addr) (n cap : Nat) (ps : List Int) (ls : List Bs) (e : Ending) (W' : World) : Prop :=
  (∃ v, e = .returned v) ∧ ∃ lm, MvEnd S' x A1 A2 y R lm ∧ ResE W X N0 b o A cur B S n cap ps x (A1 ++ (y :: A2 ++ R)) (ls ++ lm.map (pfx ps)) W'
set_option maxRecDepth 100000 in
set_option maxHeartbeats 4000000 in
theorem move_any (w0 : World) (S : Option Addr) (n cap B b o : Nat) (L : List Sym) (X A : Bl) (x : ByteArray × Int) (A1 A2 R : List Tn) (y : Tn) (a : Option Addr) (c : Nat) (ks : List Kv) (cur : Array Value) (ps : List Int) (vs : List Wv) (pv sv bv : Value) (W : World)
    (hS : SigAt w0 S n L) (hb : Below w0.heap.size w0 W) (hN : Nod W X w0.heap.size b o A x (A1 ++ (A2 ++ y :: R)) a c ks cur) (hK : Wk W X w0.heap.size B S n cap ps vs pv sv bv) (hg : gaX (sgOf L) x = true) (hn : sizes (A1 ++ (A2 ++ y :: R)) ≤ 1000000) (hps : ps.length ≤ 1000000) (hvs : vs.length + 3 ≤ 1000000) :
    Calls Try.prog 80 #[.pointer (some ⟨B, 0, none⟩), .pointer (some ⟨b, o, none⟩), .int .i64 ((A1.length : Int) + (A2.length : Int)), .int .i64 (A1.length : Int)] W (MovEnd (sgOf L) x A1 A2 y R W X w0.heap.size b o A cur B S n cap ps (vs.map Wv.b)) := by
  have hlen := len_sizes (A1 ++ (A2 ++ y :: R))
  simp only [List.length_append, List.length_cons] at hlen
  obtain ⟨i, hi⟩ : ∃ i : Nat, A1.length = i := ⟨_, rfl⟩
  obtain ⟨m, hm⟩ : ∃ m : Nat, A2.length = m := ⟨_, rfl⟩
  rw [hi, hm] at hlen ⊢
  have hil : i ≤ 1000000 := by omega
  have hml : m ≤ 1000000 := by omega
  have hnl : nodesF (nd x (A1 ++ (A2 ++ y :: R))).2 ≤ 1048576 := by rw [nodes_nd]; omega
  have hT0 := fun p => try_any w0 S n cap B b o L X A x _ a c ks cur ps vs pv sv bv p W hS hb hN hK hnl (by omega) (by omega)
  have HS := hid hS; have HB := hid hb; have HNo := hid hN; have HKo := hid hK; have HG := hid hg; have HN := hid hn; have HPS := hid hps; have HVS := hid hvs; have HT0 := hid hT0; have HI := hid hi; have HM := hid hm
  clear hS hb hN hK hg hn hps hvs hT0 hlen hnl hi hm
  have hm0 : m = 0 ∨ m = 1 ∨ 2 ≤ m := by omega
  rcases hm0 with rfl | rfl | hm2
  · have hA2 : A2 = [] := List.length_eq_zero_iff.1 HM.out
    subst hA2
    go_enter Try.func80, Try.ntmps80
    go_wp2_with fail
    refine bodyPost_ret (results_none rfl _ _ _) rfl ?_
    refine ⟨⟨_, rfl⟩, [], MvEnd.none, A, X, a, c, ks, cur, vs, pv, sv, bv, ?_⟩
    have := Res.self HNo.out HKo.out (Below.refl _ W)
    simpa using this
  · obtain ⟨a0, rfl⟩ : ∃ a0, A2 = [a0] := List.length_eq_one_iff.1 HM.out
    have hst := swap_yes HG.out A1 R a0 y
    rw [HI.out] at hst
    have hc := HT0.out ⟨3, i, 0, 0⟩
    rw [show nd x (A1 ++ ([a0] ++ y :: R)) = nd x (A1 ++ a0 :: y :: R) from rfl, hst] at hc
    have hc : Calls Try.prog 76 #[.pointer (some ⟨B, 0, none⟩), .pointer (some ⟨b, o, none⟩), .agg #[.int .i64 3, .slice none 0 0, .int .i64 (i : Int), .int .i64 0, .int .i64 0]] W fun e W' => e = .returned (.bool true) ∧ ResE W X w0.heap.size b o A cur B S n cap ps x (kidsL (nd x (A1 ++ y :: a0 :: R)).2) (vs.map Wv.b ++ [(⟨ps, ⟨3, i, 0, 0⟩, ⟨3, i, 0, 0⟩⟩ : Bs)]) W' := hc
    rw [show kidsL (nd x (A1 ++ y :: a0 :: R)).2 = _ from kids_mk _] at hc
    have HC := hid hc
    clear hc hst
    go_enter Try.func80, Try.ntmps80
    go_wp2_with (first | (go_at_call 76; refine HC.out.mono ?_; rintro e w1 ⟨rfl, hR1⟩; have HR1 := hid hR1; clear hR1) | fail)
    refine bodyPost_ret (results_none rfl _ _ _) rfl ?_
    refine ⟨⟨_, rfl⟩, _, MvEnd.one HG.out, ?_⟩
    rw [HI.out, ← pfx_one]
    exact HR1.out
  · have hA2 : 2 ≤ A2.length := by rw [HM.out]; exact hm2
    have h1 : 1 ≤ A1.length + (y :: R).length := by rw [List.length_cons]; omega
    have hst := group_yes HG.out A1 A2 (y :: R) hA2 h1
    rw [HI.out, HM.out] at hst
    have hc := HT0.out ⟨2, i, m, 0⟩
    rw [hst] at hc
    have hc : Calls Try.prog 76 #[.pointer (some ⟨B, 0, none⟩), .pointer (some ⟨b, o, none⟩), .agg #[.int .i64 2, .slice none 0 0, .int .i64 (i : Int), .int .i64 (m : Int), .int .i64 0]] W fun e W' => e = .returned (.bool true) ∧ ResE W X w0.heap.size b o A cur B S n cap ps x (kidsL (nd x (A1 ++ ((noB, x.2), mkF A2) :: y :: R)).2) (vs.map Wv.b ++ [(⟨ps, ⟨2, i, m, 0⟩, ⟨1, i, 0, 0⟩⟩ : Bs)]) W' := hc
    rw [show kidsL (nd x (A1 ++ ((noB, x.2), mkF A2) :: y :: R)).2 = _ from kids_mk _] at hc
    have HC := hid hc
    have hmm : (m : Int) ≠ 0 := by omega
    have hm1 : (1 : Int) < (m : Int) := by omega
    clear hc hst h1 hA2 HT0
    go_enter Try.func80, Try.ntmps80
    go_wp2_with fail
    rw [show (i : Int) + (m : Int) - (i : Int) = (m : Int) by omega]
    refine HC.out.mono ?_
    rintro e w1 ⟨rfl, A', X', a1, c1, ks1, cur1, vs1, pv1, sv1, bv1, hR1⟩
    have hlw := Res.low HB.out HNo.out HKo.out hR1
    have hv1 : vs1.length = vs.length + 1 := by have := congrArg List.length hR1.list; simpa using this
    have hsz : sizes (A1 ++ ((noB, x.2), mkF A2) :: y :: R) ≤ 1000001 := by
      have h1 := HN.out
      have h2 : sizeT (((noB, x.2), mkF A2) : Tn) = sizes A2 + 1 := size_nd _ _
      simp only [sizes_append, sizes_cons] at h1 ⊢
      omega
    have hc2 := try_any w0 S n cap B b o L X' A' x _ a1 c1 ks1 cur1 ps vs1 pv1 sv1 bv1 ⟨3, i, 0, 0⟩ w1 HS.out hlw hR1.nod hR1.wk (by rw [nodes_nd]; omega) (by have := HPS.out; omega) (by have := HVS.out; omega)
    have hst := swap_yes HG.out A1 R ((noB, x.2), mkF A2) y
    rw [HI.out] at hst
    rw [hst] at hc2
    have hc2 : Calls Try.prog 76 #[.pointer (some ⟨B, 0, none⟩), .pointer (some ⟨b, o, none⟩), .agg #[.int .i64 3, .slice none 0 0, .int .i64 (i : Int), .int .i64 0, .int .i64 0]] w1 fun e W' => e = .returned (.bool true) ∧ ResE w1 X' w0.heap.size b o A' cur1 B S n cap ps x (kidsL (nd x (A1 ++ y :: ((noB, x.2), mkF A2) :: R)).2) (vs1.map Wv.b ++ [(⟨ps, ⟨3, i, 0, 0⟩, ⟨3, i, 0, 0⟩⟩ : Bs)]) W' := hc2
    rw [show kidsL (nd x (A1 ++ y :: ((noB, x.2), mkF A2) :: R)).2 = _ from kids_mk _] at hc2
    have HC2 := hid hc2; have HR1 := hid hR1; have HV1 := hid hv1; have HSZ := hid hsz
    clear hc2 hst hlw hR1 hv1 hsz HC
    go_wp2_with fail
    refine HC2.out.mono ?_
    rintro e w2 ⟨rfl, A'', X'', a2, c2, ks2, cur2, vs2, pv2, sv2, bv2, hR2⟩
    have hR := HR1.out.trans hR2
    have hlw := Res.low HB.out HNo.out HKo.out hR
    have hv2 : vs2.length = vs.length + 2 := by have := congrArg List.length hR2.list; have h1 := HV1.out; simp at this; omega
    have hsz2 : sizes ((A1 ++ [y]) ++ ((noB, x.2), mkF A2) :: R) ≤ 1000001 := by
      have h1 := HSZ.out
      simp only [sizes_append, sizes_cons, sizes_nil] at h1 ⊢
      omega
    have hle : A1 ++ y :: ((noB, x.2), mkF A2) :: R = (A1 ++ [y]) ++ ((noB, x.2), mkF A2) :: R := by simp
    rw [hle] at hR
    have hc3 := try_any w0 S n cap B b o L X'' A'' x _ a2 c2 ks2 cur2 ps vs2 pv2 sv2 bv2 ⟨1, ((i + 1 : Nat) : Int), 0, 0⟩ w2 HS.out hlw hR.nod hR.wk (by rw [nodes_nd]; omega) (by have := HPS.out; omega) (by have := HVS.out; omega)
    have hst := flat_yes HG.out (A1 ++ [y]) R (y := ((noB, x.2), mkF A2)) (headed_iff.2 ⟨noName_noB, rfl⟩)
    have hyl : (A1 ++ [y]).length = i + 1 := by rw [List.length_append, HI.out]; rfl
    rw [hyl, kids_mk] at hst
    rw [hst] at hc3
    have hc3 : Calls Try.prog 76 #[.pointer (some ⟨B, 0, none⟩), .pointer (some ⟨b, o, none⟩), .agg #[.int .i64 1, .slice none 0 0, .int .i64 ((i + 1 : Nat) : Int), .int .i64 0, .int .i64 0]] w2 fun e W' => e = .returned (.bool true) ∧ ResE w2 X'' w0.heap.size b o A'' cur2 B S n cap ps x (kidsL (nd x ((A1 ++ [y]) ++ (A2 ++ R))).2) (vs2.map Wv.b ++ [(⟨ps, ⟨1, ((i + 1 : Nat) : Int), 0, 0⟩, ⟨2, ((i + 1 : Nat) : Int), lenF (mkF A2), 0⟩⟩ : Bs)]) W' := hc3
    rw [show kidsL (nd x ((A1 ++ [y]) ++ (A2 ++ R))).2 = _ from kids_mk _, show ((i + 1 : Nat) : Int) = (i : Int) + 1 by omega] at hc3
    have HC3 := hid hc3; have HR := hid hR; have HYL := hid hyl
    have HL1 := hid HR1.out.list; have HL2 := hid hR2.list
    clear hc3 hst hlw hR hR2 hv2 hsz2 hle hyl HC2
    go_wp2_with fail
    refine HC3.out.mono ?_
    rintro e w3 ⟨rfl, A3, X3, a3, c3, ks3, cur3, vs3, pv3, sv3, bv3, hR3⟩
    have hRR := HR.out.trans hR3
    have HRR := hid hRR
    clear hRR hR3 HC3
    go_wp2_with fail
    refine bodyPost_ret (results_none rfl _ _ _) rfl ?_
    refine ⟨⟨_, rfl⟩, _, MvEnd.many HG.out (by rw [HM.out]; exact hm2), A3, X3, a3, c3, ks3, cur3, vs3, pv3, sv3, bv3, ?_⟩
    have h0 := HRR.out
    rw [HL2.out, HL1.out, pfx_three] at h0
    rw [HI.out, HM.out, HYL.out, show ((i + 1 : Nat) : Int) = (i : Int) + 1 by omega, show A1 ++ (y :: A2 ++ R) = (A1 ++ [y]) ++ (A2 ++ R) by simp]
    exact h0
end Go.Proofs.Ytokbgbbkopmngaa
/- A search; the walk's order. -/
namespace Go.Proofs.Ytokbgbbkopmngaa
open Go.RowKit Go.Deep

set_option maxRecDepth 100000 in
set_option maxHeartbeats 4000000 in
theorem search_any (N : Nat) (P : Nat → Bool) (g1 g2 : Nat) (w : World) (hN : N ≤ 1000000) (hmono : ∀ i j, i ≤ j → j < N → P i = true → P j = true)
    (hf : ∀ i, i < N → ∀ V, Below w.heap.size w V → Calls Try.prog 78 #[.int .i64 (i : Int), .pointer (some ⟨g1, 0, none⟩), .pointer (some ⟨g2, 0, none⟩)] V fun e w' => e = .returned (.bool (P i)) ∧ Below V.heap.size V w') :
    Calls Try.prog 77 #[.int .i64 (N : Int), .func (.func 78) #[] #[.pointer (some ⟨g1, 0, none⟩), .pointer (some ⟨g2, 0, none⟩)]] w fun e w' => ∃ t : Nat, t ≤ N ∧ e = .returned (.int .i64 (t : Int)) ∧ (∀ q, q < t → P q = false) ∧ (∀ q, t ≤ q → q < N → P q = true) ∧ Below w.heap.size w w' := by
  have HMO := hid hmono; have HF := hid hf
  clear hmono hf
  go_enter Try.func77, Try.ntmps77
  go_wp2_with fail
  go_loopw [5, 6, 7] (fun iv jv _ wr => ∃ (i j : Nat), iv = .int .i64 i ∧ jv = .int .i64 j ∧ i ≤ j ∧ j ≤ N ∧ (∀ q, q < i → P q = false) ∧ (∀ q, j ≤ q → q < N → P q = true) ∧ Below w.heap.size w wr) (fun iv jv _ _ => (intOf jv).toNat - (intOf iv).toNat)
  case atStart => exact ⟨0, N, rfl, rfl, Nat.zero_le _, Nat.le_refl _, fun q h => absurd h (by omega), fun q h1 h2 => absurd h2 (by omega), Below.refl _ _⟩
  case round =>
    obtain ⟨i, j, rfl, rfl, hij, hj, hlo, hhi, hb⟩ := hrel
    have HLO := hid hlo; have HHI := hid hhi; have HB := hid hb
    clear hlo hhi hb
    by_cases hlt : i < j
    · go_wp2_with fail
      have hh : ((i : Int) + (j : Int)) / 2 = (((i + j) / 2 : Nat) : Int) := by omega
      have hh1 : i ≤ (i + j) / 2 := by omega
      have hh2 : (i + j) / 2 < j := by omega
      rw [hh]
      clear hh
      generalize (i + j) / 2 = m at hh1 hh2 ⊢
      obtain ⟨r, hr⟩ : ∃ r, P m = r := ⟨_, rfl⟩
      have HC := hid (HF.out m (by omega) wr HB.out)
      rw [hr] at HC
      have HR := hid hr
      clear hr
      refine HC.out.mono ?_
      rintro e w2 ⟨rfl, hb2⟩
      have HB2 := hid (HB.out.trans (hb2.mono HB.out.size))
      clear hb2 HC
      cases r
      · go_wp2_with fail
        go_roundw
        case rel =>
          refine ⟨m + 1, j, by go_num, rfl, by omega, hj, fun q h => ?_, HHI.out, HB2.out⟩
          by_cases e : P q = true
          · have := HMO.out q m (by omega) (by omega) e
            rw [HR.out] at this; cases this
          · simpa using e
        case measure => simp [intOf]; omega
      · go_wp2_with fail
        go_roundw
        case rel => exact ⟨i, m, rfl, rfl, hh1, by omega, HLO.out, fun q h1 h2 => HMO.out m q h1 h2 HR.out, HB2.out⟩
        case measure => simp [intOf]; omega
    · have e : i = j := by omega
      subst e
      go_wp2
      go_ret
      exact ⟨i, hj, rfl, HLO.out, HHI.out, HB.out⟩
/-- One of a node's arguments whole. -/
structure KidC (w : World) (g i : Nat) (y : Tn) (ka : Option Addr) (kc : Nat) : Prop where
  c0 : w.cell? ⟨g, i * 3, none⟩ = some (.string y.1.1)
  c1 : w.cell? ⟨g, i * 3 + 1, none⟩ = some (.int .i64 y.1.2)
  c2 : w.cell? ⟨g, i * 3 + 2, none⟩ = some (.slice ka (lenF y.2) kc)
  tm : TmAt w y.1 ka kc y.2
theorem KidC.below {w w' : World} {g i : Nat} {y : Tn} {ka : Option Addr} {kc : Nat} (h : KidC w g i y ka kc) (hb : Below w.heap.size w w') : KidC w' g i y ka kc := ⟨below_cell hb _ _ h.c0, below_cell hb _ _ h.c1, below_cell hb _ _ h.c2, h.tm.below hb⟩
theorem nod_kidC {W : World} {X : Bl} {N0 b o : Nat} {A : Bl} {x : ByteArray × Int} {l : List Tn} {a : Option Addr} {c : Nat} {ks : List Kv} {cur : Array Value} (h : Nod W X N0 b o A x l a c ks cur) {g : Nat} (ha : a = some ⟨g, 0, none⟩) {i : Nat} {y : Tn} (hy : l[i]? = some y) : ∃ ka kc, KidC W g i y ka kc := by
  have hk := h.kids
  rw [← hk, List.getElem?_map] at hy
  cases hkv : ks[i]? with
  | none => rw [hkv] at hy; cases hy
  | some kv =>
    rw [hkv] at hy
    have hy : some kv.tn = some y := hy
    cases hy
    have hi : i < ks.length := (List.getElem?_eq_some_iff.1 hkv).1
    rcases h.pl.row.row with ⟨e, _⟩ | ⟨g', e, _, hR, hG⟩
    · rw [e] at hi; simp at hi
    · rw [ha] at e
      cases e
      obtain ⟨A1, A2, _, _, hyF, _⟩ := gl_pick hG hkv
      obtain ⟨y0, y1, y2⟩ := kv_cells hkv
      exact ⟨kv.a, kv.c, hR.cells y0, hR.cells y1, hR.cells y2, hyF.tm⟩
set_option maxRecDepth 100000 in
set_option maxHeartbeats 4000000 in
theorem order1_any (b o Bn Bf i fr N c g : Nat) (y z : Tn) (ka kb : Option Addr) (kc kd : Nat) (w : World) (hn : w.cell? ⟨Bn, 0, none⟩ = some (.pointer (some ⟨b, o, none⟩))) (hf : w.cell? ⟨Bf, 0, none⟩ = some (.int .i64 (fr : Int))) (h2 : w.cell? ⟨b, o + 2, none⟩ = some (.slice (some ⟨g, 0, none⟩) N c)) (hi : i < N) (hfr : fr < N)
    (hy : KidC w g i y ka kc) (hz : KidC w g fr z kb kd) :
    Calls Try.prog 78 #[.int .i64 (i : Int), .pointer (some ⟨Bn, 0, none⟩), .pointer (some ⟨Bf, 0, none⟩)] w fun e w' => e = .returned (.bool (decide (0 < cmpN y z))) ∧ Below w.heap.size w w' := by
  obtain ⟨r, hr⟩ : ∃ r, cmpN y z = r := ⟨_, rfl⟩
  rw [hr]
  have HC : Hid (∀ V, Below w.heap.size w V → Calls Try.prog 79 #[.agg #[.string y.1.1, .int .i64 y.1.2, .slice ka (lenF y.2) kc], .agg #[.string z.1.1, .int .i64 z.1.2, .slice kb (lenF z.2) kd]] V fun e w' => e = .returned (.int .i64 r) ∧ Below V.heap.size V w') := hid (fun V hV => by
    refine Calls.mono (compare_all _ y.1 z.1 ka kb kc kd y.2 z.2 V (Nat.le_refl _) (hy.tm.below hV) (hz.tm.below hV)) (fun e w' hh => ⟨by rw [← hr]; exact hh.1, hh.2.below⟩))
  have m0 := later_cell hn; have m1 := later_cell hf; have m2 := later_cell h2
  have y0 := later_cell hy.c0; have y1 := later_cell hy.c1; have y2 := later_cell hy.c2
  have z0 := later_cell hz.c0; have z1 := later_cell hz.c1; have z2 := later_cell hz.c2
  have hne := later_some w
  have hi0 : (0 : Int) ≤ (i : Int) := by omega
  have hin : (i : Int) < (N : Int) := by omega
  have hf0 : (0 : Int) ≤ (fr : Int) := by omega
  have hfn : (fr : Int) < (N : Int) := by omega
  clear hn hf h2 hy hz hr
  go_enter Try.func78, Try.ntmps78
  go_wp2_with fail
  refine wp_region_later (by kernel_rfl) (by kernel_rfl) ?_
  repeat (go_big_quiet_step (first | (go_at_call 79; with_reducible refine calls_later (HC.out _ ?_); exact Later.below _) | fail))
  refine wpQuiet_nil ?_
  intro _ hw'
  obtain ⟨b3, hw''⟩ := hw'
  subst hw''
  have HB3 := hid b3.below
  clear m0 m1 m2 y0 y1 y2 z0 z1 z2 hne
  go_wp2
  go_ret
  refine ⟨?_, HB3.out⟩
  rfl
/-- What order leaves. -/
def OrdEnd (S' : Sg) (x : ByteArray × Int) (l : List Tn) (W : World) (X : Bl) (N0 b o : Nat) (A : Bl) (cur : Array Value) (B : Nat) (S : Option Addr) (n cap : Nat) (ps : List Int) (ls : List Bs) (e : Ending) (W' : World) : Prop :=
  (∃ v, e = .returned v) ∧ ∃ A1 lo, OrEnd S' x l A1 lo ∧ ResE W X N0 b o A cur B S n cap ps x A1 (ls ++ lo.map (pfx ps)) W'
/-- order's loop. -/
def OrSo (S' : Sg) (x : ByteArray × Int) (l : List Tn) (W : World) (X : Bl) (N0 b o : Nat) (A : Bl) (cur : Array Value) (B : Nat) (S : Option Addr) (n cap : Nat) (ps : List Int) (ls : List Bs) (j : Nat) (wr : World) : Prop :=
  ∃ A1 R lo, A1.length = j ∧ OrSt S' x l A1 R lo ∧ ResE W X N0 b o A cur B S n cap ps x (A1 ++ R) (ls ++ lo.map (pfx ps)) wr
theorem srt_mono {A : List Tn} (h : Srt A) (z : Tn) {i j : Nat} {a b : Tn} (hij : i ≤ j) (ha : A[i]? = some a) (hb : A[j]? = some b) (hp : 0 < cmpN a z) : 0 < cmpN b z := by
  by_cases e : i = j
  · subst e
    rw [ha] at hb
    cases hb
    exact hp
  · have hle : leN a b := by
      obtain ⟨h1, e1⟩ := List.getElem?_eq_some_iff.1 ha
      obtain ⟨h2, e2⟩ := List.getElem?_eq_some_iff.1 hb
      have := List.pairwise_iff_getElem.1 h i j h1 h2 (by omega)
      rw [e1, e2] at this
      exact this
    have hbz : leN b z → False := fun h3 => by
      have := leN_trans hle h3
      unfold leN at this
      omega
    unfold leN at hbz
    exact Int.not_le.1 (fun h => hbz h)
theorem split_at {A : List Tn} {z : Tn} {t : Nat} (ht : t ≤ A.length) (h1 : ∀ q a, q < t → A[q]? = some a → cmpN a z ≤ 0) (h2 : ∀ q a, t ≤ q → A[q]? = some a → 0 < cmpN a z) : ∃ A1 A2, A = A1 ++ A2 ∧ A1.length = t ∧ (∀ a ∈ A1, cmpN a z ≤ 0) ∧ ∀ a ∈ A2, 0 < cmpN a z := by
  refine ⟨A.take t, A.drop t, (List.take_append_drop t A).symm, by rw [List.length_take]; omega, fun a ha => ?_, fun a ha => ?_⟩
  · obtain ⟨q, hq, e⟩ := List.getElem_of_mem ha
    rw [List.length_take] at hq
    rw [List.getElem_take] at e
    exact h1 q a (by omega) (List.getElem?_eq_some_iff.2 ⟨by omega, e⟩)
  · obtain ⟨q, hq, e⟩ := List.getElem_of_mem ha
    rw [List.length_drop] at hq
    rw [List.getElem_drop] at e
    exact h2 (t + q) a (by omega) (List.getElem?_eq_some_iff.2 ⟨by omega, e⟩)

set_option maxRecDepth 100000 in
set_option maxHeartbeats 8000000 in
theorem order_any (w0 : World) (S : Option Addr) (n cap B b o : Nat) (L : List Sym) (X A : Bl) (x : ByteArray × Int) (l : List Tn) (a : Option Addr) (c : Nat) (ks : List Kv) (cur : Array Value) (ps : List Int) (vs : List Wv) (pv sv bv : Value) (W : World)
    (hS : SigAt w0 S n L) (hb : Below w0.heap.size w0 W) (hN : Nod W X w0.heap.size b o A x l a c ks cur) (hK : Wk W X w0.heap.size B S n cap ps vs pv sv bv) (hn : sizes l ≤ 1000000) (hps : ps.length ≤ 1000000) (hvs : vs.length + 3 * l.length ≤ 900000) :
    Calls Try.prog 62 #[.pointer (some ⟨B, 0, none⟩), .pointer (some ⟨b, o, none⟩)] W (OrdEnd (sgOf L) x l W X w0.heap.size b o A cur B S n cap ps (vs.map Wv.b)) := by
  obtain ⟨W0, hW0⟩ : ∃ W0, W.alloc (.cells #[.pointer (some ⟨b, o, none⟩)] 60) = W0 := ⟨_, rfl⟩
  have hb0 : Below W.heap.size W W0 := by rw [← hW0]; exact alloc_below0 _ _
  have hBn : Box W0 W.heap.size 60 #[.pointer (some ⟨b, o, none⟩)] := by rw [← hW0]; exact Box.new _ _ _
  have hR0 := Res.self hN hK hb0
  have hlow0 := Res.low hb hN hK hR0
  obtain ⟨gg, hgg⟩ : ∃ gg, gaX (sgOf L) x = gg := ⟨_, rfl⟩
  have HPA : Hid (∀ V, Below W0.heap.size W0 V → Calls Try.prog 43 #[.slice S n cap, .pointer (some ⟨b, o, none⟩)] V fun e w2 => e = .returned (placeV S n cap b o (unitI L x.2) (unitOk L x.2)) ∧ Below V.heap.size V w2) := hid (fun V hV => by
    have hbV : Below w0.heap.size w0 V := hlow0.trans (hV.mono hlow0.size)
    exact placeAt_any S n cap b o L x a ks.length c V (hS.below hbV) (hR0.nod.pl.nd.below hV))
  have HGA : Hid (∀ V, Below W0.heap.size W0 V → Calls Try.prog 70 #[placeV S n cap b o (unitI L x.2) (unitOk L x.2)] V fun e w2 => e = .returned (.bool gg) ∧ Below V.heap.size V w2) := hid (fun V hV => by
    have hbV : Below w0.heap.size w0 V := hlow0.trans (hV.mono hlow0.size)
    have := gathers_any S n cap b o (unitI L x.2) (unitOk L x.2) L x a ks.length c V (hS.below hbV) (hR0.nod.pl.nd.below hV)
    rw [show (noName x.1 && joinsAt L x.2) = gg from hgg] at this
    exact this)
  have m0 := later_cell (hBn.v (k := 0) rfl); have m1 := later_cell (hR0.wk.box.v (k := 0) rfl)
  have hne := later_some W0
  have hlen := len_sizes l
  obtain ⟨Bn, hBne⟩ : ∃ Bn, W.heap.size = Bn := ⟨_, rfl⟩
  rw [hBne] at hBn m0
  have HS := hid hS; have HB := hid hb; have HNo := hid hN; have HKo := hid hK; have HN := hid hn; have HPS := hid hps; have HVS := hid hvs; have HR0 := hid hR0; have HG := hid hgg; have HBN := hid hBn; have HBNE := hid hBne; have HBW := hid hb0; have HLEN := hid hlen
  clear hS hb hN hK hn hps hvs hR0 hlow0 hgg hBn hBne hb0 hlen
  go_enter Try.func62, Try.ntmps62
  go_wp2_with fail
  clear hW0
  rw [HBNE.out]
  refine wp_region_later (by kernel_rfl) (by kernel_rfl) ?_
  repeat (go_big_quiet_step (first | (go_at_call 43; with_reducible refine calls_later (HPA.out _ ?_); exact Later.below _) | (go_at_call 70; with_reducible refine calls_later (HGA.out _ ?_); exact Later.below _) | fail))
  refine wpQuiet_nil ?_
  intro _ hw'
  obtain ⟨b3, hw''⟩ := hw'
  subst hw''
  obtain ⟨W1, hW1⟩ : ∃ W1, b3.now = W1 := ⟨_, rfl⟩
  have hb01 : Below W0.heap.size W0 W1 := by rw [← hW1]; exact b3.below
  rw [hW1]
  have HB01 := hid hb01
  clear m0 m1 hne hW1 hb01 HPA HGA
  cases gg with
  | false =>
    go_wp2_with fail
    refine bodyPost_ret (results_none rfl _ _ _) rfl ?_
    refine ⟨⟨_, rfl⟩, l, [], OrEnd.free HG.out, A, X, a, c, ks, cur, vs, pv, sv, bv, ?_⟩
    have := HR0.out.below HB01.out
    simpa using this
  | true =>
    have hR1 := HR0.out.below HB01.out
    have hBn1 := HBN.out.below HB01.out
    have n0 := hBn1.v (k := 0) rfl
    have n2 := hR1.nod.pl.nd.list
    obtain ⟨N, hN⟩ : ∃ N : Nat, l.length = N := ⟨_, rfl⟩
    have hksl : ks.length = N := by rw [← hN, ← hR1.nod.kids, List.length_map]
    rw [hksl] at n2
    have hNl : N ≤ 1000000 := by have := HLEN.out; have := HN.out; omega
    have HR1 := hid hR1; have HBN1 := hid hBn1; have HNL := hid hN
    have H0 : Hid (OrSo (sgOf L) x l W0 X w0.heap.size b o A cur B S n cap ps (vs.map Wv.b) 0 W1) := hid ⟨[], l, [], rfl, OrSt.start, A, X, a, c, ks, cur, vs, pv, sv, bv, by simpa using Res.self HR0.out.nod HR0.out.wk HB01.out⟩
    have HBX : Hid (¬ A Bn ∧ ¬ X Bn ∧ Bn ≠ b) := hid ⟨fun h => by have := (HNo.out.low Bn h).2; have := HBNE.out; omega, fun h => by have := (HKo.out.low Bn h).2; have := HBNE.out; omega, fun e => by have := HNo.out.pl.lt; have := HBNE.out; omega⟩
    clear hR1 hBn1 hN hksl
    simp only [Bool.not_true]
    go_wp2_with fail
    clear n0 n2
    go_loopw [19] (fun ix wr => ∃ j : Nat, j ≤ N ∧ ix = .int .i64 j ∧ OrSo (sgOf L) x l W0 X w0.heap.size b o A cur B S n cap ps (vs.map Wv.b) j wr ∧ Box wr Bn 60 #[.pointer (some ⟨b, o, none⟩)]) (fun ix _ => N - (intOf ix).toNat)
    case atStart => exact ⟨0, Nat.zero_le _, rfl, H0.out, HBN1.out⟩
    case round =>
      obtain ⟨j, hj, rfl, hso, hbn⟩ := hrel
      obtain ⟨A1, R, lo, hA1, hor, A', X', a', c', ks', cur', vs', pv', sv', bv', hres⟩ := hso
      have hpl := hor.perm.length_eq
      rw [List.length_append] at hpl
      by_cases hlt : j < N
      · obtain ⟨z, R1, rfl⟩ : ∃ z R1, R = z :: R1 := by
          cases R with
          | nil => exfalso; have := HNL.out; simp at hpl; omega
          | cons z R1 => exact ⟨z, R1, rfl⟩
        have hget : (A1 ++ z :: R1)[j]? = some z := by rw [← hA1]; exact at_get A1 R1 z
        obtain ⟨g, kv, rfl, _, _, _, _, _, hksl⟩ := nod_kid hres.nod hget
        have hlw := Res.low (HB.out.trans (HBW.out.mono HB.out.size)) HR0.out.nod HR0.out.wk hres
        obtain ⟨kb, kd, hz⟩ := nod_kidC hres.nod rfl hget
        have n2 := hres.nod.pl.nd.list
        have hNN : ks'.length = N := by rw [hksl, List.length_append, List.length_cons]; have := HNL.out; simp at hpl; omega
        rw [hNN] at n2
        obtain ⟨W5, hW5⟩ : ∃ W5, wr.alloc (.cells #[.int .i64 (j : Int)] 3) = W5 := ⟨_, rfl⟩
        have hb5 : Below wr.heap.size wr W5 := by rw [← hW5]; exact alloc_below0 _ _
        have hBf : Box W5 wr.heap.size 3 #[.int .i64 (j : Int)] := by rw [← hW5]; exact Box.new _ _ _
        obtain ⟨Bf, hBfe⟩ : ∃ Bf, wr.heap.size = Bf := ⟨_, rfl⟩
        rw [hBfe] at hBf
        obtain ⟨P, hP⟩ : ∃ P : Nat → Bool, P = fun q => match A1[q]? with | some a => decide (0 < cmpN a z) | none => true := ⟨_, rfl⟩
        have hsrt := hor.srt
        have HPq : Hid (∀ q a, A1[q]? = some a → P q = decide (0 < cmpN a z)) := hid (fun q a h => by rw [hP]; simp only [h])
        have hSE := search_any j P Bn Bf W5 (by omega) (fun i1 j1 h1 h2 h3 => by
          obtain ⟨a1, e1⟩ : ∃ a1, A1[i1]? = some a1 := ⟨_, List.getElem?_eq_getElem (by omega)⟩
          obtain ⟨a2, e2⟩ : ∃ a2, A1[j1]? = some a2 := ⟨_, List.getElem?_eq_getElem (by omega)⟩
          rw [HPq.out i1 a1 e1] at h3
          rw [HPq.out j1 a2 e2]
          exact decide_eq_true (srt_mono hsrt z h1 e1 e2 (of_decide_eq_true h3))) (fun q hq V hV => by
          obtain ⟨a1, e1⟩ : ∃ a1, A1[q]? = some a1 := ⟨_, List.getElem?_eq_getElem (by omega)⟩
          rw [HPq.out q a1 e1]
          have hbV : Below wr.heap.size wr V := hb5.trans (hV.mono hb5.size)
          obtain ⟨ka, kc, hy⟩ := nod_kidC hres.nod rfl (i := q) (y := a1) (by rw [List.getElem?_append_left (by omega)]; exact e1)
          exact order1_any b o Bn Bf q j N c' g a1 z ka kb kc kd V ((hbn.below hbV).v (k := 0) rfl) ((hBf.below hV).v (k := 0) rfl) (below_cell hbV _ _ n2) (by omega) hlt (hy.below hbV) (hz.below hbV))
        have f0 := hBf.v (k := 0) rfl
        have b0 := (hbn.below hb5).v (k := 0) rfl
        have HSE := hid hSE; have HOR := hid hor; have HRES := hid hres; have HA1 := hid hA1; have HB5 := hid hb5; have HBn := hid hbn; have HBf := hid hBf; have HLW := hid hlw
        have HPL := hid hpl; have HBFE := hid hBfe
        have hj0 : (0 : Int) ≤ (j : Int) := by omega
        have hjn : (j : Int) < (N : Int) := by omega
        clear hSE hor hres hA1 hb5 hbn hBf hpl hget hksl hz n2 hNN hsrt hP hlw
        go_wp2_with fail
        clear hW5
        refine HSE.out.mono ?_
        rintro e w6 ⟨t, ht, rfl, ht1, ht2, hb6⟩
        have hb56 : Below wr.heap.size wr w6 := HB5.out.trans (hb6.mono HB5.out.size)
        obtain ⟨A11, A12, rfl, h11, h12, h13⟩ := split_at (A := A1) (z := z) (t := t) (by rw [HA1.out]; exact ht) (fun q a hq e => by
          have := ht1 q hq
          rw [HPq.out q a e] at this
          have := of_decide_eq_false this
          omega) (fun q a hq e => by
          have := ht2 q hq (by have := (List.getElem?_eq_some_iff.1 e).1; have := HA1.out; omega)
          rw [HPq.out q a e] at this
          exact of_decide_eq_true this)
        have hr6 := HRES.out.below hb56
        rw [List.append_assoc] at hr6
        have hl6 := Res.low (HB.out.trans (HBW.out.mono HB.out.size)) HR0.out.nod HR0.out.wk hr6
        have hv6 : vs'.length = vs.length + lo.length := by have := congrArg List.length hr6.list; simpa using this
        have hcost := HOR.out.cost
        have hsz : sizes (A11 ++ (A12 ++ z :: R1)) ≤ 1000000 := by
          have h1 := sizes_perm HOR.out.perm
          rw [List.append_assoc] at h1
          rw [h1]; exact HN.out
        have hj12 : (A11.length : Int) + (A12.length : Int) = (j : Int) := by have := HA1.out; rw [List.length_append] at this; omega
        have hMV := move_any w0 S n cap B b o L X' A' x A11 A12 R1 z _ c' ks' cur' ps vs' pv' sv' bv' w6 HS.out hl6 hr6.nod hr6.wk HG.out hsz HPS.out (by have := HVS.out; have := HNL.out; have := HA1.out; omega)
        rw [hj12, h11] at hMV
        have fa := (HBf.out.below hb6).v (k := 0) rfl
        have fb := (HBn.out.below hb56).v (k := 0) rfl
        have HMV := hid hMV; have HR6 := hid hr6; have H12 := hid h12; have H13 := hid h13; have H11 := hid h11; have HB56 := hid hb56
        clear hMV hr6 h12 h13 h11 hb56 hb6 ht1 ht2 hl6 hv6 hcost hsz f0 b0 hj12 HSE
        go_wp2_with fail
        refine HMV.out.mono ?_
        rintro e w7 ⟨⟨v, rfl⟩, lm, hmv, A'', X'', a2, c2, ks2, cur2, vs2, pv2, sv2, bv2, hr7⟩
        have hr := HR6.out.trans hr7
        have HNEW : Hid (OrSo (sgOf L) x l W0 X w0.heap.size b o A cur B S n cap ps (vs.map Wv.b) (j + 1) w7) := hid (by
          refine ⟨A11 ++ z :: A12, R1, lo ++ lm, ?_, HOR.out.step H12.out H13.out hmv, A'', X'', a2, c2, ks2, cur2, vs2, pv2, sv2, bv2, ?_⟩
          · have := HA1.out
            simp only [List.length_append, List.length_cons] at this ⊢
            omega
          · have h1 := hr
            rw [HR6.out.list] at h1
            rw [List.map_append, ← List.append_assoc, show (A11 ++ z :: A12) ++ R1 = A11 ++ (z :: A12 ++ R1) by simp]
            exact h1)
        have HBN7 : Hid (Box w7 Bn 60 #[.pointer (some ⟨b, o, none⟩)]) := hid (by
          have h1 := HBn.out.below HB56.out
          refine (hr7.fr.same Bn h1.lt (fun h => ?_)).trans h1
          have hlt := HBN.out.lt
          rcases h with h | h | h
          · rcases HRES.out.newA Bn h with h2 | h2
            · exact HBX.out.1 h2
            · omega
          · rcases HRES.out.newX Bn h with h2 | h2
            · exact HBX.out.2.1 h2
            · omega
          · exact HBX.out.2.2 h)
        clear hr hr7 hmv fa fb HMV
        go_wp2_with fail
        go_roundw
        case rel => exact ⟨j + 1, by omega, by go_num, HNEW.out, HBN7.out⟩
        case measure => simp [intOf]; omega
      · have e : j = N := by omega
        subst e
        have hR : R = [] := List.length_eq_zero_iff.1 (by have := HNL.out; omega)
        subst hR
        have HOR := hid hor; have HRES := hid hres
        clear hor hres hpl hbn
        go_wp2_with fail
        refine bodyPost_ret (results_none rfl _ _ _) rfl ?_
        refine ⟨⟨_, rfl⟩, A1, lo, HOR.out.fin HG.out, A', X', a', c', ks', cur', vs', pv', sv', bv', ?_⟩
        have := HR0.out.trans HRES.out
        rw [List.append_nil] at this
        exact this
end Go.Proofs.Ytokbgbbkopmngaa
/- One of a node's arguments, changed in place by the walk. -/
namespace Go.Proofs.Ytokbgbbkopmngaa
open Go.RowKit Go.Deep

theorem nod_down {W : World} {X : Bl} {N0 b o : Nat} {A : Bl} {x : ByteArray × Int} {l : List Tn} {a : Option Addr} {c : Nat} {ks : List Kv} {cur : Array Value} (h : Nod W X N0 b o A x l a c ks cur) {i : Nat} {y : Tn} (hy : l[i]? = some y) :
    ∃ (g : Nat) (A1 : Bl) (cu : Array Value) (ka : Option Addr) (kc : Nat) (vs1 : List Kv), a = some ⟨g, 0, none⟩ ∧ i < ks.length ∧ c ≤ maxLen ∧ ks.length ≤ c ∧ Nod W X N0 g (i * 3) A1 y.1 (kidsL y.2) ka kc vs1 cu ∧
      ∀ (B : Nat) (S : Option Addr) (n cap : Nat) (ps : List Int) (x' : ByteArray × Int) (l' : List Tn) (ls' : List Bs) (A' X' : Bl) (a' : Option Addr) (c' : Nat) (ks' : List Kv) (cur' : Array Value) (vs : List Wv) (pv sv bv : Value) (W2 : World), Res W X N0 g (i * 3) A1 cu B S n cap ps x' l' ls' A' X' a' c' ks' cur' vs pv sv bv W2 →
        ∃ A2 ks2, Res W X N0 b o A cur B S n cap ps x (l.set i (nd x' l')) ls' A2 X' (some ⟨g, 0, none⟩) c ks2 cur vs pv sv bv W2 := by
  have hkk := h.kids
  rw [← hkk, List.getElem?_map] at hy
  obtain ⟨kv, hkv, hkt⟩ : ∃ kv, ks[i]? = some kv ∧ kv.tn = y := by
    cases hq : ks[i]? with
    | none => rw [hq] at hy; cases hy
    | some kv => rw [hq] at hy; exact ⟨kv, rfl, Option.some.inj hy⟩
  subst hkt
  have hi : i < ks.length := (List.getElem?_eq_some_iff.1 hkv).1
  obtain ⟨g, e, hAg, hR, hG⟩ : ∃ g, a = some ⟨g, 0, none⟩ ∧ A g ∧ RowV W g c ks ∧ GL FulE W ks (fun q => A q ∧ q ≠ g) := by
    rcases h.pl.row.row with ⟨e, _⟩ | h
    · rw [e] at hi; simp at hi
    · exact h
  subst e
  obtain ⟨A1, A2, a1, a2, hyF, g2⟩ := gl_pick hG hkv
  obtain ⟨vs1, k1, k2⟩ := FulTm.open hyF
  have hvl := kv_len k1
  obtain ⟨cu, r1, r2, r3⟩ := hR.row
  obtain ⟨y0, y1, y2⟩ := kv_cells hkv
  have hc : ∀ j v, (kvCells ks)[j]? = some v → cu[j]? = some v := fun j v hv => by
    rw [← r3, List.getElem?_take] at hv
    split at hv
    · rw [Array.getElem?_toList] at hv; exact hv
    · cases hv
  have hgA1 : ¬ A1 g := fun hh => (a1 g hh).2 rfl
  have hAb : ¬ A b := h.pl.out
  have hbg : b ≠ g := fun e => hAb (e ▸ hAg)
  refine ⟨g, A1, cu, kv.a, kv.c, vs1, rfl, hi, hR.small, hR.fits, ⟨⟨r1, hc _ _ y0, hc _ _ y1, by rw [hvl]; exact hc _ _ y2, k2, hgA1, hyF.sizes.name⟩, k1, fun q hq => h.low q (a1 q hq).1, fun q hq => h.apart q (a1 q hq).1, h.apart g hAg, (h.low g hAg).1⟩, ?_⟩
  intro B S n cap ps x' l' ls' A' X' a' c' ks' cur' vs pv sv bv W2 hU
  have z3 := hU.nod.pl
  have hs := hU.fr.low.size
  have hsame : ∀ q, q < W.heap.size → ¬ A1 q → ¬ X q → q ≠ g → W2.heap[q]? = W.heap[q]? := fun q hq h1 h2 h3 => hU.fr.same q hq (fun h => by
    rcases h with h | h | h
    · exact h1 h
    · exact h2 h
    · exact h3 h)
  have hk' : ks'.map Kv.tn = kidsL (mkF l') := by rw [kids_mk]; exact hU.nod.kids
  have hkv' : FulE W2 A' ⟨x', mkF l', a', c'⟩ := z3.row.tmL z3.nm hk'
  have hk'l : ks'.length = lenF (mkF l') := kv_len hk'
  have hA'g : ¬ A' g := z3.out
  have hrow : RowV W2 g c (ks.set i ⟨x', mkF l', a', c'⟩) := by
    refine ⟨⟨cur', z3.blk, hU.size.trans r2, ?_⟩, by rw [List.length_set]; exact hR.fits, hR.small⟩
    rw [List.length_set]
    apply List.ext_getElem?
    intro j
    by_cases hj : j < ks.length * 3
    · rw [List.getElem?_take_of_lt hj, Array.getElem?_toList]
      by_cases hin : j < i * 3 ∨ i * 3 + 3 ≤ j
      · rw [hU.same j hin]
        obtain ⟨v, hv⟩ := kvCells_get (ks := ks) (j := j) hj
        rw [hc j v hv]
        have : (kvCells (ks.set i ⟨x', mkF l', a', c'⟩))[j]? = (kvCells ks)[j]? := by
          have e : ∀ m, m ≠ i → (ks.set i ⟨x', mkF l', a', c'⟩)[m]? = ks[m]? := fun m hm => List.getElem?_set_ne (by omega)
          have hm : j / 3 ≠ i := by omega
          have hjm : j / 3 < ks.length := by omega
          obtain ⟨kv2, hkv2⟩ : ∃ kv2, ks[j / 3]? = some kv2 := ⟨_, List.getElem?_eq_getElem hjm⟩
          obtain ⟨p0, p1, p2⟩ := kv_cells hkv2
          obtain ⟨q0, q1, q2⟩ := kv_cells ((e _ hm).trans hkv2)
          have hj3 : j = j / 3 * 3 ∨ j = j / 3 * 3 + 1 ∨ j = j / 3 * 3 + 2 := by omega
          rcases hj3 with e3 | e3 | e3 <;> rw [e3]
          · rw [q0, p0]
          · rw [q1, p1]
          · rw [q2, p2]
        rw [this, hv]
      · have hset : (ks.set i ⟨x', mkF l', a', c'⟩)[i]? = some ⟨x', mkF l', a', c'⟩ := List.getElem?_set_self hi
        obtain ⟨q0, q1, q2⟩ := kv_cells hset
        have hj3 : j = i * 3 ∨ j = i * 3 + 1 ∨ j = i * 3 + 2 := by omega
        rcases hj3 with e3 | e3 | e3 <;> rw [e3]
        · rw [q0, z3.c0]
        · rw [q1, z3.c1]
        · rw [q2, z3.c2, hk'l]
    · rw [List.getElem?_eq_none (by rw [List.length_take]; omega), List.getElem?_eq_none (by rw [kvCells_len, List.length_set]; omega)]
  have hGL : GL FulE W2 (ks.set i ⟨x', mkF l', a', c'⟩) (fun q => A' q ∨ A2 q) := by
    have hsp : List.Perm (ks.set i ⟨x', mkF l', a', c'⟩) (⟨x', mkF l', a', c'⟩ :: (ks.take i ++ ks.drop (i + 1))) := by
      have := pick_perm (ks := ks.set i ⟨x', mkF l', a', c'⟩) (i := i) (List.getElem?_set_self hi)
      rw [List.take_set_of_le (Nat.le_refl _), List.drop_set_of_lt (by omega)] at this
      exact this
    refine GL.perm hsp.symm (GL.cons hkv' (g2.keep fulE (fun q hq hlt => hsame q hlt (fun h1 => (a2 q hq).2 h1) (h.apart q (a2 q hq).1.1) (a2 q hq).1.2)) (fun q hq h2 => ?_))
    rcases hU.newA q hq with h1 | h1
    · exact (a2 q h2).2 h1
    · have := (h.low q (a2 q h2).1.1).2; omega
  refine ⟨fun q => (A' q ∨ A2 q) ∨ q = g, ks.set i ⟨x', mkF l', a', c'⟩, hU.fr.mono (fun q hq => ?_), fun q hq => ?_, hU.newX, rfl, fun _ _ => rfl, ⟨⟨?_, h.pl.c0, h.pl.c1, by rw [List.length_set]; exact h.pl.c2, ⟨by rw [List.length_set]; exact h.pl.row.few, .inr ⟨g, rfl, .inr rfl, hrow, hGL.mono (fun q hq => ⟨.inl hq, ?_⟩)⟩⟩, ?_, h.pl.nm⟩, ?_, fun q hq => ?_, fun q hq hx => ?_, fun hx => ?_, h.lo⟩, hU.wk, hU.list⟩
  · rcases hq with h1 | h1 | h1
    · exact .inl (a1 q h1).1
    · exact .inr (.inl h1)
    · exact .inl (h1 ▸ hAg)
  · rcases hq with (h1 | h1) | h1
    · exact (hU.newA q h1).imp (fun h2 => (a1 q h2).1) id
    · exact .inl (a2 q h1).1.1
    · exact .inl (h1 ▸ hAg)
  · exact (hsame b h.pl.lt (fun h1 => hAb (a1 b h1).1) h.out hbg).trans h.pl.blk
  · rcases hq with hq | hq
    · exact fun e => hA'g (e ▸ hq)
    · exact (a2 q hq).1.2
  · rintro ((hq | hq) | hq)
    · rcases hU.newA b hq with h1 | h1
      · exact hAb (a1 b h1).1
      · have := h.pl.lt; omega
    · exact hAb (a2 b hq).1.1
    · exact hbg hq
  · rw [List.map_set, hkk]
    rfl
  · rcases hq with (h1 | h1) | h1
    · exact hU.nod.low q h1
    · have := h.low q (a2 q h1).1.1; exact ⟨this.1, by omega⟩
    · have := h.low g hAg; exact ⟨h1 ▸ this.1, by omega⟩
  · have hold : A q → q < W.heap.size → False := fun h1 h2 => by
      rcases hU.newX q hx with h3 | h3
      · exact h.apart q h1 h3
      · omega
    rcases hq with (h1 | h1) | h1
    · exact hU.nod.apart q h1 hx
    · exact hold (a2 q h1).1.1 (h.low q (a2 q h1).1.1).2
    · subst h1; exact hold hAg (h.low q hAg).2
  · rcases hU.newX b hx with h3 | h3
    · exact h.out h3
    · have := h.pl.lt; omega
end Go.Proofs.Ytokbgbbkopmngaa
/- The walk's settleArg. -/
namespace Go.Proofs.Ytokbgbbkopmngaa
open Go.RowKit Go.Deep

/-- What settle leaves. -/
def SetEnd (S' : Sg) (ar : Int → Nat) (t : Tn) (W : World) (X : Bl) (N0 b o : Nat) (A : Bl) (cur : Array Value) (B : Nat) (S : Option Addr) (n cap : Nat) (ps : List Int) (ls : List Bs) (e : Ending) (W' : World) : Prop :=
  ∃ t' l1 ok, e = .returned (.bool ok) ∧ Stl S' ar t t' l1 ok ∧ ResE W X N0 b o A cur B S n cap ps t'.1 (kidsL t'.2) (ls ++ l1.map (pfx ps)) W'
def SetOk (k : Nat) : Prop := ∀ (w0 : World) (S : Option Addr) (n cap B b o : Nat) (L : List Sym) (X A : Bl) (x : ByteArray × Int) (l : List Tn) (a : Option Addr) (c : Nat) (ks : List Kv) (cur : Array Value) (ps : List Int) (vs : List Wv) (pv sv bv : Value) (W : World),
  SigAt w0 S n L → Below w0.heap.size w0 W → Nod W X w0.heap.size b o A x l a c ks cur → Wk W X w0.heap.size B S n cap ps vs pv sv bv → (sgOf L).Ok (arAt L) → (∀ f u, (sgOf L).unit f = some u → (sgOf L).joins f = true) → RightT (sgOf L) (arAt L) (nd x l) → Cln (nd x l).2 →
  sizeT (nd x l) ≤ k → sizeT (nd x l) ≤ 200 → ps.length + sizeT (nd x l) ≤ 900000 → vs.length + 4 * (sizeT (nd x l) * sizeT (nd x l)) ≤ 900000 →
  Calls Try.prog 51 #[.pointer (some ⟨B, 0, none⟩), .pointer (some ⟨b, o, none⟩)] W (SetEnd (sgOf L) (arAt L) (nd x l) W X w0.heap.size b o A cur B S n cap ps (vs.map Wv.b))
set_option maxRecDepth 100000 in
theorem app_one_int {w : World} {N0 : Nat} {pv : Value} {ps : List Int} (k : Int) (h : w.ownsRow N0 3 1 pv ps.length (intsV ps)) (hn : ps.length ≤ 1000000) (hB : N0 ≤ w.heap.size) :
    ∃ g cp w', (Builtin.append_ #[37, 37] 37 #[pv, .slice (some ⟨w.heap.size, 0, none⟩) 1 1]).run Try.prog (w.alloc (.cells #[.int .i64 k] 3)) = .ok (.slice (some ⟨g, 0, none⟩) (ps.length + 1) cp) w' ∧
      w'.ownsRow N0 3 1 (.slice (some ⟨g, 0, none⟩) (ps.length + 1) cp) (ps.length + 1) (intsV ps ++ [.int .i64 k]) ∧ Fr (fun q => pv.ownBlock = some q) w w' ∧ (pv.ownBlock = some g ∨ w.heap.size ≤ g) := by
  obtain ⟨i0, hi0, hz0, hz1, hz2⟩ := info_parts Try.info3
  have b0 := alloc_below0 w (.cells #[.int .i64 k] 3)
  have hE : Box (w.alloc (.cells #[.int .i64 k] 3)) w.heap.size 3 #[.int .i64 k] := Box.new _ _ _
  obtain ⟨v', w1, hr1, hA1, hG1, _, hat⟩ := run_append_own_at (P := Try.prog) (w.alloc (.cells #[.int .i64 k] 3)) N0 37 37 3 i0 _ 1 8 Try.underlying37 hi0 hz0 hz1 hz2 rfl (by decide) pv ps.length (intsV ps) (owns_by h (fun q e => b0.block q (owns_lt h e))) ⟨w.heap.size, 0, none⟩ 1 1 [.int .i64 k] rfl
    (World.news_of_block hE) (fun u hu => by rw [List.mem_singleton] at hu; subst hu; rfl) (by unfold maxLen; omega) (by omega) (Nat.le_trans hB b0.size)
  rcases hA1.2 with ⟨_, h1⟩ | ⟨g, cp, cur, rfl, _, _, _, _, _, _⟩
  · omega
  · refine ⟨g, cp, w1, hr1, hA1, (Fr.of_below b0).trans ⟨⟨hG1.os, hG1.tape, hG1.output, hG1.size, fun _ hk => absurd hk (Nat.not_lt_zero _)⟩, fun q hq hn2 => hG1.block q hq (fun e => hn2 e.symm)⟩, ?_⟩
    rcases hat with e | e
    · left; rw [← e]; rfl
    · right
      have e : some g = some (w.alloc (.cells #[.int .i64 k] 3)).heap.size := e
      have := Option.some.inj e
      rw [World.size_alloc] at this
      omega
/-- Another path. -/
theorem Wk.turn {W W1 : World} {X X1 : Bl} {N0 B : Nat} {S : Option Addr} {n cap : Nat} {ps qs : List Int} {vs : List Wv} {pv sv bv qv : Value} (h : Wk W X N0 B S n cap ps vs pv sv bv) (hq : W1.ownsRow N0 3 1 qv qs.length (intsV qs)) (hn : ∀ g, qv.ownBlock = some g → pv.ownBlock = some g ∨ W.heap.size ≤ g)
    (hB : Box W1 B 66 #[.slice S n cap, qv, sv, bv]) (hF : Fr (fun q => q = B ∨ pv.ownBlock = some q) W W1) (hX : ∀ q, X q → X1 q) (hXn : ∀ q, W.heap.size ≤ q → q < W1.heap.size → X1 q) (hl : ∀ q, X1 q → N0 ≤ q ∧ q < W1.heap.size) : Wk W1 X1 N0 B S n cap qs vs qv sv bv := by
  have hR : ∀ q, rowsB B qv sv bv q → rowsB B pv sv bv q ∨ W.heap.size ≤ q := fun q hq => by
    rcases hq with hq | hq | hq | hq
    · exact .inl (.inl hq)
    · rcases hn q hq with h1 | h1
      · exact .inl (.inr (.inl h1))
      · exact .inr h1
    · exact .inl (.inr (.inr (.inl hq)))
    · exact .inl (.inr (.inr (.inr hq)))
  refine ⟨hB, hX _ h.inX, hq, owns_by h.steps (fun q e => hF.same q (owns_lt h.steps e) ?_), owns_by h.backs (fun q e => hF.same q (owns_lt h.backs e) ?_), fun g hg => ?_, fun g hg => hX g (h.sX g hg), fun g hg => hX g (h.bX g hg), h.ne, fun x hx => (h.all x hx).turn hX (fun q hq => (h.low q hq).2) (fun q hq hr => hF.same q (h.low q hq).2 ?_) hR, hl⟩
  · rintro (e2 | e2)
    · exact h.s_ne.1 q e e2
    · exact (h.p_ne e2).2.1 e
  · rintro (e2 | e2)
    · exact h.s_ne.2 q e e2
    · exact (h.p_ne e2).2.2 e
  · rcases hn g hg with h1 | h1
    · exact hX g (h.pX g h1)
    · exact hXn g h1 (owns_lt hq hg)
  · rintro (e2 | e2)
    · exact hr (.inl e2)
    · exact hr (.inr (.inl e2))
theorem pfx_pre (ps : List Int) (i : Nat) (l : List Bs) : l.map (pfx (ps ++ [(i : Int)])) = (l.map (pre i)).map (pfx ps) := by
  rw [List.map_map]
  refine List.map_congr_left (fun b _ => ?_)
  simp [pfx, pre]
/-- What settleArg leaves. -/
def ArgEnd (S' : Sg) (ar : Int → Nat) (x : ByteArray × Int) (l : List Tn) (i : Nat) (y : Tn) (W : World) (X : Bl) (N0 b o : Nat) (A : Bl) (cur : Array Value) (B : Nat) (S : Option Addr) (n cap : Nat) (ps : List Int) (ls : List Bs) (e : Ending) (W' : World) : Prop :=
  ∃ y' lk ok, e = .returned (.bool ok) ∧ Stl S' ar y y' lk ok ∧ ResE W X N0 b o A cur B S n cap ps x (l.set i y') (ls ++ (lk.map (pre i)).map (pfx ps)) W'
/-- The record alone has turned. -/
theorem Nod.recd {W W1 : World} {X X1 : Bl} {N0 b o : Nat} {A : Bl} {x : ByteArray × Int} {l : List Tn} {a : Option Addr} {c : Nat} {ks : List Kv} {cur : Array Value} {P : Bl} (h : Nod W X N0 b o A x l a c ks cur) (hF : Fr P W W1) (hP : ∀ q, P q → X q) (hXX : ∀ q, X1 q → X q ∨ W.heap.size ≤ q) : Nod W1 X1 N0 b o A x l a c ks cur := by
  refine ⟨h.pl.keep (hF.same b h.pl.lt (fun hp => h.out (hP b hp))) (fun k hk hlt => hF.same k hlt (fun hp => h.apart k hk (hP k hp))), h.kids, fun q hq => ⟨(h.low q hq).1, Nat.lt_of_lt_of_le (h.low q hq).2 hF.low.size⟩, fun q hq hx => ?_, fun hx => ?_, h.lo⟩
  · rcases hXX q hx with h1 | h1
    · exact h.apart q hq h1
    · have := (h.low q hq).2; omega
  · rcases hXX b hx with h1 | h1
    · exact h.out h1
    · have := h.pl.lt; omega

set_option maxRecDepth 100000 in
set_option maxHeartbeats 4000000 in
theorem settleArg_any {k : Nat} (ih : SetOk k) (w0 : World) (S : Option Addr) (n cap B b o : Nat) (L : List Sym) (X A : Bl) (x : ByteArray × Int) (l : List Tn) (a : Option Addr) (c : Nat) (ks : List Kv) (cur : Array Value) (ps : List Int) (vs : List Wv) (pv sv bv : Value) (W : World) (i : Nat) (y : Tn)
    (hS : SigAt w0 S n L) (hb : Below w0.heap.size w0 W) (hN : Nod W X w0.heap.size b o A x l a c ks cur) (hK : Wk W X w0.heap.size B S n cap ps vs pv sv bv) (hO : (sgOf L).Ok (arAt L)) (hUJ : ∀ f u, (sgOf L).unit f = some u → (sgOf L).joins f = true) (hy : l[i]? = some y) (hr : RightT (sgOf L) (arAt L) y) (hc : Cln y.2)
    (hk : sizeT y ≤ k) (hk2 : sizeT y ≤ 200) (hps : ps.length + 1 + sizeT y ≤ 900000) (hvs : vs.length + 4 * (sizeT y * sizeT y) ≤ 900000) :
    Calls Try.prog 61 #[.pointer (some ⟨B, 0, none⟩), .pointer (some ⟨b, o, none⟩), .int .i64 (i : Int)] W (ArgEnd (sgOf L) (arAt L) x l i y W X w0.heap.size b o A cur B S n cap ps (vs.map Wv.b)) := by
  obtain ⟨g, cp, w', hr1, hA1, hF1, hg1⟩ := app_one_int (i : Int) hK.path (by omega) hb.size
  -- the path grown
  obtain ⟨W1, hW1⟩ : ∃ W1, w'.setCell ⟨B, 1, none⟩ (.slice (some ⟨g, 0, none⟩) (ps.length + 1) cp) = W1 := ⟨_, rfl⟩
  have hBp : pv.ownBlock ≠ some B := fun e => (hK.p_ne e).1 rfl
  have hB' : Box w' B 66 #[.slice S n cap, pv, sv, bv] := (hF1.same B hK.box.lt hBp).trans hK.box
  have hB1 : Box W1 B 66 #[.slice S n cap, .slice (some ⟨g, 0, none⟩) (ps.length + 1) cp, sv, bv] := by rw [← hW1]; exact hB'.set 1 _
  have hs1 : W1.heap.size = w'.heap.size := by rw [← hW1]; simp
  have hgB : g ≠ B := by
    obtain ⟨c1, e1⟩ := owns_type hA1 (g := g) rfl
    exact type_ne e1 (show w'.heap[B]? = _ from hB') (by decide)
  have hA1' : W1.ownsRow w0.heap.size 3 1 (.slice (some ⟨g, 0, none⟩) (ps.length + 1) cp) (ps.length + 1) (intsV (ps ++ [(i : Int)])) := by
    have := owns_by hA1 (w' := W1) (fun q e => by have e : some g = some q := e; cases e; rw [← hW1]; exact set_far hgB _)
    rw [intsV_app]; exact this
  have hFW1 : Fr (fun q => q = B ∨ pv.ownBlock = some q) W W1 := by
    refine (hF1.mono (fun _ h => .inr h)).trans ⟨?_, fun q _ hn => ?_⟩
    · rw [← hW1]; exact (Below.refl 0 w').setCell (p := ⟨B, 1, none⟩) (Nat.zero_le _) _
    · rw [← hW1]; exact set_far (fun e => hn (.inl e)) _
  have hsW := hFW1.low.size
  have hPX : ∀ q, (q = B ∨ pv.ownBlock = some q) → X q := fun q hq => by
    rcases hq with e | e
    · rw [e]; exact hK.inX
    · exact hK.pX q e
  have hK1 : Wk W1 (fun q => X q ∨ (W.heap.size ≤ q ∧ q < W1.heap.size)) w0.heap.size B S n cap (ps ++ [(i : Int)]) vs (.slice (some ⟨g, 0, none⟩) (ps.length + 1) cp) sv bv := by
    refine Wk.turn hK (by rw [List.length_append]; exact hA1') (fun q e => by have e : some g = some q := e; cases e; exact hg1) hB1 hFW1 (fun q h => .inl h) (fun q h1 h2 => .inr ⟨h1, h2⟩) (fun q h => ?_)
    rcases h with h | h
    · exact ⟨(hK.low q h).1, Nat.lt_of_lt_of_le (hK.low q h).2 hsW⟩
    · exact ⟨Nat.le_trans hb.size h.1, h.2⟩
  have hN1 : Nod W1 (fun q => X q ∨ (W.heap.size ≤ q ∧ q < W1.heap.size)) w0.heap.size b o A x l a c ks cur := Nod.recd hN hFW1 hPX (fun q h => h.imp id (fun h => h.1))
  have hR1 : Res W X w0.heap.size b o A cur B S n cap (ps ++ [(i : Int)]) x l (vs.map Wv.b) A (fun q => X q ∨ (W.heap.size ≤ q ∧ q < W1.heap.size)) a c ks cur vs (.slice (some ⟨g, 0, none⟩) (ps.length + 1) cp) sv bv W1 :=
    ⟨hFW1.mono (fun q h => .inr (.inl (hPX q h))), fun _ h => .inl h, fun q h => h.imp id (fun h => h.1), rfl, fun _ _ => rfl, hN1, hK1, rfl⟩
  have hb1 : Below w0.heap.size w0 W1 := hb.trans (hFW1.below (fun q h => (hK.low q (hPX q h)).1) hb.size)
  obtain ⟨g2, A1, cu, ka, kc, vs1, rfl, hil, hcm, hkc, hNk, hclose⟩ := nod_down hN1 hy
  have hnd : nd y.1 (kidsL y.2) = y := nd_self hc
  have hset := ih w0 S n cap B g2 (i * 3) L _ A1 y.1 (kidsL y.2) ka kc vs1 cu (ps ++ [(i : Int)]) vs _ sv bv W1 hS hb1 hNk hK1 hO hUJ (by rw [hnd]; exact hr) (by rw [hnd]; exact hc) (by rw [hnd]; exact hk) (by rw [hnd]; exact hk2) (by rw [hnd, List.length_append]; show ps.length + 1 + _ ≤ _; exact hps) (by rw [hnd]; exact hvs)
  rw [hnd] at hset
  have n2 := hN1.pl.nd.list
  have p1 := hK.box.v (k := 1) rfl
  have q1 := hB'.v (k := 1) rfl; have qf1 := hB'.f 1
  have hi0 : (0 : Int) ≤ (i : Int) := by omega
  have hin : (i : Int) < (ks.length : Int) := by omega
  unfold maxLen at hcm
  rw [← hW1] at n2
  have hpsl : ps.length ≤ 900000 := by omega
  have HW1 := hid hW1; have HSET := hid hset; have HCL := hid hclose; have HR1 := hid hR1; have HK := hid hK; have HB := hid hb; have HNo := hid hN; have HOK := hid hO; have HUJ := hid hUJ; have HRY := hid hr; have HCY := hid hc
  clear hset hclose hR1 hK hb hN hA1 hF1 hg1 hBp hB' hB1 hs1 hgB hA1' hFW1 hsW hPX hK1 hN1 hb1 hNk hnd hS hO hUJ hy hr hc hk hk2 hps hvs hW1 ih
  go_enter Try.func61, Try.ntmps61
  go_wp2_with (first
    | (at_builtin; refine Lib.wpList_append_run _ rfl _ _ _ _ rfl _ _ rfl rfl _ _ hr1 ?_; clear hr1)
    | (go_at_call 51; rw [HW1.out]; refine HSET.out.mono ?_; rintro e w2 ⟨y', lk, ok, rfl, hst, hres⟩; have HST := hid hst; have HRE := hid hres; clear hst hres)
    | fail)
  obtain ⟨A2, X2, a2, c2, ks2, cur2, vs2, pv2, sv2, bv2, hr⟩ := HRE.out
  obtain ⟨pa2, pc2, rfl, hpI, hpl, hpm⟩ := hr.wk.path_at
  have hpl2 : (ps ++ [(i : Int)]).length = ps.length + 1 := by rw [List.length_append]; rfl
  obtain ⟨g3, rfl⟩ : ∃ g3, pa2 = some ⟨g3, 0, none⟩ := by
    rcases hr.wk.path.2 with ⟨_, h1⟩ | ⟨g3, _, _, e, _⟩
    · omega
    · cases e; exact ⟨g3, rfl⟩
  obtain ⟨N1, hN1⟩ : ∃ N1, ps.length = N1 := ⟨_, rfl⟩
  have q2 : w2.drew.cell? ⟨B, 1, none⟩ = some (.slice (some ⟨g3, 0, none⟩) (N1 + 1) pc2) := by
    have := hr.wk.box.v (k := 1) rfl
    rw [hpl2, hN1] at this
    exact this
  have qf2 : w2.drew.frozen? ⟨B, 1, none⟩ = false := hr.wk.box.f 1
  have hpc : N1 + 1 ≤ pc2 := by omega
  unfold maxLen at hpm
  have hN1l : N1 ≤ 900000 := by omega
  have HR := hid hr; have HN1 := hid hN1; have HPL := hid hpl2
  clear hr hpI hpl hpl2 hN1 p1 q1 qf1 n2 HRE hpsl
  refine region_mid (S := fun V => V.cell? ⟨B, 1, none⟩ = some (.slice (some ⟨g3, 0, none⟩) (N1 + 1) pc2)) [4, 8, 9, 10, 11] (by kernel_rfl) q2 ?_
  intro hS
  refine plainM (i := 0) (v := (.pointer (some ⟨B, 0, none⟩))) rfl (by kernel_rfl) (by kernel_rfl) (by kernel_rfl) (by kernel_rfl) (fun _ _ _ h => h) (Or.inl ⟨by rfl, fun w' _ => ?_⟩) ?_
  · go_simp
  try simp only [Act.put, List.getElem_toArray, List.getElem_cons_zero, List.setIfInBounds_toArray, List.set_cons_zero, List.set_cons_succ]
  refine plainM (i := 1) (v := (.pointer (some ⟨B, 0, none⟩))) rfl (by kernel_rfl) (by kernel_rfl) (by kernel_rfl) (by kernel_rfl) (fun _ _ _ h => h) (Or.inl ⟨by rfl, fun w' _ => ?_⟩) ?_
  · go_simp
  try simp only [Act.put, List.getElem_toArray, List.getElem_cons_zero, List.getElem_cons_succ, List.setIfInBounds_toArray, List.set_cons_zero, List.set_cons_succ]
  refine plainM (i := 2) (v := (.pointer (some ⟨B, 0, none⟩))) rfl (by kernel_rfl) (by kernel_rfl) (by kernel_rfl) (by kernel_rfl) (fun _ _ _ h => h) (Or.inl ⟨by rfl, fun w' _ => ?_⟩) ?_
  · go_simp
  try simp only [Act.put, List.getElem_toArray, List.getElem_cons_zero, List.getElem_cons_succ, List.setIfInBounds_toArray, List.set_cons_zero, List.set_cons_succ]
  refine plainM (i := 3) (v := (.pointer (some ⟨B, 1, none⟩))) rfl (by kernel_rfl) (by kernel_rfl) (by kernel_rfl) (by kernel_rfl) (fun _ _ _ h => h) (Or.inl ⟨by rfl, fun w' _ => ?_⟩) ?_
  · go_simp
  try simp only [Act.put, List.getElem_toArray, List.getElem_cons_zero, List.getElem_cons_succ, List.setIfInBounds_toArray, List.set_cons_zero, List.set_cons_succ]
  refine plainM (i := 5) (v := (.pointer (some ⟨B, 0, none⟩))) rfl (by kernel_rfl) (by kernel_rfl) (by kernel_rfl) (by kernel_rfl) (fun _ _ _ h => h) (Or.inl ⟨by rfl, fun w' _ => ?_⟩) ?_
  · go_simp
  try simp only [Act.put, List.getElem_toArray, List.getElem_cons_zero, List.getElem_cons_succ, List.setIfInBounds_toArray, List.set_cons_zero, List.set_cons_succ]
  refine plainM (i := 6) (v := (.pointer (some ⟨B, 0, none⟩))) rfl (by kernel_rfl) (by kernel_rfl) (by kernel_rfl) (by kernel_rfl) (fun _ _ _ h => h) (Or.inl ⟨by rfl, fun w' _ => ?_⟩) ?_
  · go_simp
  try simp only [Act.put, List.getElem_toArray, List.getElem_cons_zero, List.getElem_cons_succ, List.setIfInBounds_toArray, List.set_cons_zero, List.set_cons_succ]
  refine plainM (i := 7) (v := (.pointer (some ⟨B, 1, none⟩))) rfl (by kernel_rfl) (by kernel_rfl) (by kernel_rfl) (by kernel_rfl) (fun _ _ _ h => h) (Or.inl ⟨by rfl, fun w' _ => ?_⟩) ?_
  · go_simp
  try simp only [Act.put, List.getElem_toArray, List.getElem_cons_zero, List.getElem_cons_succ, List.setIfInBounds_toArray, List.set_cons_zero, List.set_cons_succ]
  refine takeM (i := 4) (v := (.slice (some ⟨g3, 0, none⟩) (N1 + 1) pc2)) rfl (by kernel_rfl) (by kernel_rfl) (by kernel_rfl) (by kernel_rfl) (fun _ _ _ h => h) (Or.inl ⟨by rfl, fun w' hw' => ?_⟩) hS ?_
  · have y0 := hw'; go_simp
  try simp only [Act.put, List.getElem_toArray, List.getElem_cons_zero, List.getElem_cons_succ, List.setIfInBounds_toArray, List.set_cons_zero, List.set_cons_succ]
  refine takeM (i := 8) (v := (.slice (some ⟨g3, 0, none⟩) (N1 + 1) pc2)) rfl (by kernel_rfl) (by kernel_rfl) (by kernel_rfl) (by kernel_rfl) (fun _ _ _ h => h) (Or.inl ⟨by rfl, fun w' hw' => ?_⟩) hS ?_
  · have y0 := hw'; go_simp
  try simp only [Act.put, List.getElem_toArray, List.getElem_cons_zero, List.getElem_cons_succ, List.setIfInBounds_toArray, List.set_cons_zero, List.set_cons_succ]
  refine takeM (i := 9) (v := (.int .i64 ((N1 : Int) + 1))) rfl (by kernel_rfl) (by kernel_rfl) (by kernel_rfl) (by kernel_rfl) (fun _ _ _ h => h) (Or.inl ⟨by rfl, fun w' hw' => ?_⟩) hS ?_
  · go_simp
  try simp only [Act.put, List.getElem_toArray, List.getElem_cons_zero, List.getElem_cons_succ, List.setIfInBounds_toArray, List.set_cons_zero, List.set_cons_succ]
  refine takeM (i := 10) (v := (.int .i64 (N1 : Int))) rfl (by kernel_rfl) (by kernel_rfl) (by kernel_rfl) (by kernel_rfl) (fun _ _ _ h => h) (Or.inl ⟨by rfl, fun w' hw' => ?_⟩) hS ?_
  · go_simp; exact IntWalk.i64_in _ (by constructor <;> omega)
  try simp only [Act.put, List.getElem_toArray, List.getElem_cons_zero, List.getElem_cons_succ, List.setIfInBounds_toArray, List.set_cons_zero, List.set_cons_succ]
  refine takeM (i := 11) (v := (.slice (some ⟨g3, 0, none⟩) N1 pc2)) rfl (by kernel_rfl) (by kernel_rfl) (by kernel_rfl) (by kernel_rfl) (fun _ _ _ h => h) (Or.inl ⟨by rfl, fun w' hw' => ?_⟩) hS ?_
  · go_simp; intro h; omega
  try simp only [Act.put, List.getElem_toArray, List.getElem_cons_zero, List.getElem_cons_succ, List.setIfInBounds_toArray, List.set_cons_zero, List.set_cons_succ]
  refine plainM (i := 12) (v := (.pointer (some ⟨B, 0, none⟩))) rfl (by kernel_rfl) (by kernel_rfl) (by kernel_rfl) (by kernel_rfl) (fun _ _ _ h => h) (Or.inl ⟨by rfl, fun w' _ => ?_⟩) ?_
  · go_simp
  try simp only [Act.put, List.getElem_toArray, List.getElem_cons_zero, List.getElem_cons_succ, List.setIfInBounds_toArray, List.set_cons_zero, List.set_cons_succ]
  refine plainM (i := 13) (v := (.pointer (some ⟨B, 1, none⟩))) rfl (by kernel_rfl) (by kernel_rfl) (by kernel_rfl) (by kernel_rfl) (fun _ _ _ h => h) (Or.inl ⟨by rfl, fun w' _ => ?_⟩) ?_
  · go_simp
  try simp only [Act.put, List.getElem_toArray, List.getElem_cons_zero, List.getElem_cons_succ, List.setIfInBounds_toArray, List.set_cons_zero, List.set_cons_succ]
  refine readyM (rs := [14]) (by kernel_rfl) (by simp) ?_
  refine ReadyM.last rfl (by kernel_rfl) (fun K hK => ?_)
  go_simp
  refine hK.out _ _ ?_
  clear hK K
  try simp only [Act.put, List.getElem_toArray, List.getElem_cons_zero, List.getElem_cons_succ, List.setIfInBounds_toArray, List.set_cons_zero, List.set_cons_succ]
  refine doneM (by kernel_rfl) ?_ _
  clear hS
  go_wp2_with fail
  go_ret
  obtain ⟨A3, ks3, hnode⟩ := HCL.out B S n cap _ _ _ _ _ _ _ _ _ _ _ _ _ _ _ HR.out
  have hcy : Cln y'.2 := (Runs.ok HOK.out HUJ.out HRY.out HCY.out HST.out.runs).2.1
  rw [nd_self hcy] at hnode
  have hT := HR1.out.trans hnode
  obtain ⟨w3, hw3⟩ : ∃ w3, (w2.setCell ⟨B, 1, none⟩ (.slice (some ⟨g3, 0, none⟩) N1 pc2)).drew = w3 := ⟨_, rfl⟩
  have hF3 : Fr (fun q => q = B) w2 w3 := by
    rw [← hw3]
    exact (set1_fr _).trans (Fr.of_below (Below.refl _ _).drew)
  have hsz3 : w3.heap.size = w2.heap.size := by rw [← hw3]; simp
  have hB3 : Box w3 B 66 #[.slice S n cap, .slice (some ⟨g3, 0, none⟩) N1 pc2, sv2, bv2] := by
    rw [← hw3]
    have h0 : Box w2 B 66 #[.slice S n cap, .slice (some ⟨g3, 0, none⟩) (ps ++ [(i : Int)]).length pc2, sv2, bv2] := hT.wk.box
    exact h0.set 1 _
  have hp3 : w2.ownsRow w0.heap.size 3 1 (.slice (some ⟨g3, 0, none⟩) N1 pc2) N1 (intsV ps) := by
    have h0 := hT.wk.path
    rw [HPL.out, HN1.out, intsV_app] at h0
    exact ownsRow_pop (by rw [intsV_len, HN1.out, Nat.mul_one]) h0
  have hg3 : g3 ≠ B := by
    obtain ⟨c1, e1⟩ := owns_type hp3 (g := g3) rfl
    exact type_ne e1 (show w2.heap[B]? = _ from hT.wk.box) (by decide)
  have hK3 : Wk w3 X2 w0.heap.size B S n cap ps vs2 (.slice (some ⟨g3, 0, none⟩) N1 pc2) sv2 bv2 := by
    refine Wk.turn hT.wk ?_ (fun q e => .inl e) hB3 (hF3.mono (fun q h => .inl h)) (fun _ h => h) (fun q h1 h2 => by omega) (fun q h => ⟨(hT.wk.low q h).1, by rw [hsz3]; exact (hT.wk.low q h).2⟩)
    rw [HN1.out]
    exact owns_by hp3 (fun q e => by have e : some g3 = some q := e; cases e; exact hF3.same g3 (owns_lt hp3 rfl) hg3)
  have hN3 := Nod.recd hT.nod hF3 (fun q h => by rw [h]; exact hT.wk.inX) (fun q h => .inl h)
  have hsW := hT.fr.low.size
  rw [hw3]
  refine ⟨y', lk, ok, rfl, HST.out, A3, X2, _, _, ks3, cur, vs2, _, sv2, bv2, ⟨⟨hT.fr.low.trans hF3.low, fun q hq hn => (hF3.same q (by omega) (fun e => hn (.inr (.inl (by rw [e]; exact HK.out.inX))))).trans (hT.fr.same q hq hn)⟩, hT.newA, hT.newX, hT.size, hT.same, hN3, hK3, ?_⟩⟩
  rw [hT.list, pfx_pre]
end Go.Proofs.Ytokbgbbkopmngaa
/- The walk's settle. -/
namespace Go.Proofs.Ytokbgbbkopmngaa
open Go.RowKit Go.Deep

/-- settle's loop. -/
def SetL (S' : Sg) (ar : Int → Nat) (x : ByteArray × Int) (l : List Tn) (W : World) (X : Bl) (N0 b o : Nat) (A : Bl) (cur : Array Value) (B : Nat) (S : Option Addr) (n cap : Nat) (ps : List Int) (ls0 : List Bs) (f : Nat) (left ok : Value) (wr : World) : Prop :=
  ∃ (U D : List Tn) (ls : List Bs), f = sizes U ∧ left = .int .i64 (U.length : Int) ∧ ok = .bool true ∧ SeSt S' ar x l U D ls ∧ ResE W X N0 b o A cur B S n cap ps x (U ++ D) (ls0 ++ ls.map (pfx ps)) wr
theorem map_two (ls0 a b : List Bs) (ps : List Int) : (ls0 ++ a.map (pfx ps)) ++ b.map (pfx ps) = ls0 ++ (a ++ b).map (pfx ps) := by rw [List.map_append, List.append_assoc]
set_option maxRecDepth 100000 in
set_option maxHeartbeats 8000000 in
theorem settle_step {k : Nat} (ih : SetOk k) : SetOk (k + 1) := by
  intro w0 S n cap B b o L X A x l a c ks cur ps vs pv sv bv W hS hb hN hK hO hUJ hr hc hk hk2 hps hvs
  rw [size_nd] at hk hk2 hps hvs
  have hcs := c_sq l
  obtain ⟨Z, hZ⟩ : ∃ Z, (sizes l + 1) * (sizes l + 1) = Z := ⟨_, rfl⟩
  rw [hZ] at hvs hcs
  have hlen := len_sizes l
  have hst := strip_any w0 S n cap B b o L (arAt L) X A x [] l [] a c ks cur ps vs pv sv bv W hS hb (by simpa using hN) hK (by simp only [List.nil_append, List.append_nil]; omega) (by omega) (by omega)
  rw [show ((([] : List Tn).length : Nat) : Int) = 0 from rfl, show (0 : Int) + (l.length : Int) = (l.length : Int) by omega] at hst
  have n2 := hN.pl.nd.list
  have hksl : ks.length = l.length := by rw [← hN.kids, List.length_map]
  rw [hksl] at n2
  obtain ⟨ls0, hls0⟩ : ∃ ls0, vs.map Wv.b = ls0 := ⟨_, rfl⟩
  rw [hls0] at hst ⊢
  have hl0 : ls0.length = vs.length := by rw [← hls0, List.length_map]
  have hll : l.length ≤ 1000 := by omega
  obtain ⟨N, hNe⟩ : ∃ N : Nat, l.length = N := ⟨_, rfl⟩
  rw [hNe] at n2 hst hll
  have HST := hid hst; have HS := hid hS; have HB := hid hb; have HNo := hid hN; have HKo := hid hK; have HO := hid hO; have HUJ := hid hUJ; have HR := hid hr; have HC := hid hc; have HK1 := hid hk; have HK2 := hid hk2; have HPS := hid hps; have HVS := hid hvs; have HCS := hid hcs; have HZ := hid hZ
  have HL0 : Hid (ls0.length = vs.length) := hid hl0
  have HNE := hid hNe; have HLN := hid hlen
  clear hst hS hb hN hK hO hUJ hr hc hk hk2 hps hvs hcs hZ hlen hksl hls0 hl0 hNe
  go_enter Try.func51, Try.ntmps51
  go_wp2_with fail
  refine HST.out.mono ?_
  rintro e w1 (⟨D0, l1, rfl, hsp, hres⟩ | ⟨z, l1, rfl, hsp, hres⟩)
  · obtain ⟨mu, hmu⟩ := count_of2 (SetL (sgOf L) (arAt L) x l W X w0.heap.size b o A cur B S n cap ps ls0)
    have HMU := hid hmu
    have H0 : Hid (SetL (sgOf L) (arAt L) x l W X w0.heap.size b o A cur B S n cap ps ls0 (sizes D0) (.int .i64 (D0.length : Int)) (.bool true) w1) := hid ⟨D0, [], l1, rfl, rfl, rfl, SeSt.start hsp, by simpa using hres⟩
    rw [show (((([] : List Tn).length + D0.length : Nat)) : Int) = (D0.length : Int) by simp]
    have hdb : D0.length ≤ 1000 := by
      have h1 := hsp.cost
      have h2 := len_sizes D0
      have := HK2.out
      omega
    obtain ⟨d0, hd0⟩ : ∃ d0 : Int, (D0.length : Int) = d0 := ⟨_, rfl⟩
    rw [hd0] at H0 ⊢
    have hd1 : 0 ≤ d0 ∧ d0 ≤ 1000 := by omega
    clear hmu hsp hres hd0 hdb n2 HST
    go_wp2_with fail
    go_loopw [5, 6, 7, 8] (fun lv ov _ _ wr => ∃ f, SetL (sgOf L) (arAt L) x l W X w0.heap.size b o A cur B S n cap ps ls0 f lv ov wr) (fun lv ov _ _ wr => mu lv ov wr)
    case atStart => exact ⟨_, H0.out⟩
    case round =>
      obtain ⟨f, hrs⟩ := hrel
      have hst := (HMU.out _ _ _ _ hrs).1
      clear hrs H0
      obtain ⟨U, D, ls, hf, hlv, hov, hse, A', X', a', c', ks', cur', vs', pv', sv', bv', hres⟩ := hst
      have hsm := hse.small
      have hvl : vs'.length = ls0.length + ls.length := by have := congrArg List.length hres.list; simpa using this
      have hlw := Res.low HB.out HNo.out HKo.out hres
      have hrk := Runs.ok HO.out HUJ.out HR.out HC.out hse.runs
      rcases snoc_cases U with rfl | ⟨U1, y, rfl⟩
      · have e0 : (([] : List Tn).length : Int) = 0 := rfl
        rw [e0] at hlv
        subst hlv hov
        rw [List.nil_append] at hres
        have hcost := hse.cost
        rw [sqs_nil, sizes_nil] at hcost
        rw [sizes_nil] at hsm
        have hDl := len_sizes D
        have hbd := bound_sq (sizes l) (sqs l) (sqs_le l)
        rw [HZ.out] at hbd
        have hor := order_any w0 S n cap B b o L X' A' x D a' c' ks' cur' ps vs' pv' sv' bv' wr HS.out hlw hres.nod hres.wk (by have := HK2.out; omega) (by have := HPS.out; omega) (by have := HVS.out; have := HL0.out; omega)
        have HOR := hid hor; have HRES := hid hres; have HSE := hid hse
        clear hor hres hse hcost hsm hDl hbd hvl hlw hrk hf
        go_wp2_with fail
        refine HOR.out.mono ?_
        rintro e w2 ⟨⟨v, rfl⟩, A1, lo, hoe, A2, X2, a2, c2, ks2, cur2, vs2, pv2, sv2, bv2, hr2⟩
        have HOE := hid hoe; have HR2 := hid hr2
        clear hoe hr2 HOR
        go_wp2_with fail
        go_ret
        have hfin := HSE.out.fin HO.out HUJ.out HR.out HC.out HOE.out
        refine ⟨nd x A1, ls ++ lo, true, rfl, hfin, A2, X2, a2, c2, ks2, cur2, vs2, pv2, sv2, bv2, ?_⟩
        have h1 := HRES.out.trans HR2.out
        rw [HRES.out.list, map_two] at h1
        rw [show kidsL (nd x A1).2 = A1 from kids_mk _]
        exact h1
      · obtain ⟨i, hi⟩ : ∃ i : Nat, U1.length = i := ⟨_, rfl⟩
        have hUl : ((U1 ++ [y]).length : Int) = (i : Int) + 1 := by rw [List.length_append, hi]; rfl
        rw [hUl] at hlv
        subst hlv hov
        have hcost := hse.cost
        rw [sizes_append, sizes_cons, sizes_nil] at hsm hcost hf
        rw [sqs_append, sqs_cons, sqs_nil] at hcost
        have hU1 := len_sizes U1
        have hil : i ≤ 1000 := by have := HK2.out; omega
        have hym : y ∈ kidsL (nd x ((U1 ++ [y]) ++ D)).2 := by unfold nd; rw [kids_mk]; simp
        have hry : RightT (sgOf L) (arAt L) y := right_kids.1 hrk.1.2 y hym
        have hcy : Cln y.2 := cln_kids hrk.2.1 y hym
        have hget : ((U1 ++ [y]) ++ D)[i]? = some y := by rw [← hi, List.append_assoc]; exact at_get U1 D y
        have hsa := settleArg_any ih w0 S n cap B b o L X' A' x _ a' c' ks' cur' ps vs' pv' sv' bv' wr i y HS.out hlw hres.nod hres.wk HO.out HUJ.out hget hry hcy (by have := HK1.out; omega) (by have := HK2.out; omega) (by have := HPS.out; omega) (by have := HVS.out; have := HL0.out; have := HCS.out; omega)
        have HSA := hid hsa; have HRES := hid hres; have HSE := hid hse; have HI := hid hi; have HF := hid hf; have HCO := hid hcost; have HSM := hid hsm; have HVL := hid hvl; have HU1 := hid hU1
        clear hsa hres hse hi hf hcost hsm hvl hlw hrk hU1 hUl hym hry hcy hget
        go_wp2_with fail
        refine HSA.out.mono ?_
        rintro e w2 ⟨y', lk, ok, rfl, hstl, A2, X2, a2, c2, ks2, cur2, vs2, pv2, sv2, bv2, hr2⟩
        have hr := HRES.out.trans hr2
        rw [HRES.out.list, map_two, ← HI.out, set_mid, HI.out] at hr
        have hlw := Res.low HB.out HNo.out HKo.out hr
        have hv2 : vs2.length = ls0.length + (ls.length + lk.length) := by have := congrArg List.length hr.list; simpa using this
        have hys := hstl.size
        have hlk : lk.length ≤ 4 * (sizeT y * sizeT y) := by
          cases ok with
          | true => exact (hstl.yes rfl).2
          | false => have := (hstl.no rfl).2; omega
        have hs2 := strip_any w0 S n cap B b o L (arAt L) X2 A2 x U1 [y'] D a2 c2 ks2 cur2 ps vs2 pv2 sv2 bv2 w2 HS.out hlw hr.nod hr.wk (by rw [sizes_append, sizes_append, sizes_cons, sizes_nil]; have := HSM.out; have := HK2.out; omega) (by have := HPS.out; omega) (by rw [sizes_cons, sizes_nil]; have := HCO.out; have := HCS.out; have := HVS.out; have := HL0.out; have := HK2.out; have := HSM.out; omega)
        rw [HI.out, show (([y'] : List Tn).length : Int) = 1 from rfl, hr.list] at hs2
        have HS2 := hid hs2; have HRR := hid hr; have HSTL := hid hstl
        clear hs2 hr hr2 hstl hlw hv2 hys hlk HSA
        go_wp2_with fail
        refine HS2.out.mono ?_
        rintro e w3 (⟨D1, l1', rfl, hsp, A3, X3, a3, c3, ks3, cur3, vs3, pv3, sv3, bv3, hr3⟩ | ⟨z, l1', rfl, hsp, A3, X3, a3, c3, ks3, cur3, vs3, pv3, sv3, bv3, hr3⟩)
        · have hr := HRR.out.trans hr3
          rw [map_two] at hr
          have hD1 : D1.length ≤ 1000 := by
            have h1 := hsp.cost
            have h2 := len_sizes D1
            have h3 := HSTL.out.size
            rw [sizes_cons, sizes_nil] at h1
            have := HSM.out; have := HK2.out; omega
          have HSP := hid hsp; have HR3 := hid hr
          clear hsp hr hr3 HS2
          rw [show ((U1.length + D1.length : Nat) : Int) = (i : Int) + (D1.length : Int) by rw [← HI.out]; omega]
          obtain ⟨d1, hd1'⟩ : ∃ d1 : Int, (D1.length : Int) = d1 := ⟨_, rfl⟩
          rw [hd1']
          have hd2 : 0 ≤ d1 ∧ d1 ≤ 1000 := by omega
          have HD1 := hid hd1'
          clear hd1' hD1
          cases ok with
          | true =>
            have HNW : Hid (SetL (sgOf L) (arAt L) x l W X w0.heap.size b o A cur B S n cap ps ls0 (sizes U1) (.int .i64 (i : Int)) (.bool true) w3) := hid ⟨U1, D1 ++ D, _, rfl, by rw [HI.out], rfl, by have := HSE.out.done HSTL.out HSP.out; rw [HI.out] at this; exact this, A3, X3, a3, c3, ks3, cur3, vs3, pv3, sv3, bv3, HR3.out⟩
            clear HRES HRR HR3
            go_wp2_with fail
            go_roundw
            case rel => exact ⟨_, HNW.out⟩
            case measure =>
              have h1 := (HMU.out _ _ _ _ HNW.out).2
              have h2 := HF.out
              have h3 := size_pos y
              omega
          | false =>
            have hag := HSE.out.again HSTL.out HSP.out
            rw [HI.out] at hag
            have HNW : Hid (SetL (sgOf L) (arAt L) x l W X w0.heap.size b o A cur B S n cap ps ls0 (sizes (U1 ++ D1)) (.int .i64 ((i : Int) + d1)) (.bool true) w3) := hid ⟨U1 ++ D1, D, _, rfl, by rw [List.length_append, HI.out]; exact congrArg (Value.int .i64) (by have := HD1.out; omega), rfl, hag.1, A3, X3, a3, c3, ks3, cur3, vs3, pv3, sv3, bv3, by rw [List.append_assoc]; exact HR3.out⟩
            have HAG := hid hag.2
            clear HRES HRR HR3 hag
            go_wp2_with fail
            go_roundw
            case rel => exact ⟨_, HNW.out⟩
            case measure =>
              have h1 := (HMU.out _ _ _ _ HNW.out).2
              have h2 := HF.out
              have h3 := HAG.out
              rw [sizes_append U1 [y], sizes_cons, sizes_nil] at h3
              omega
        · have hr := HRR.out.trans hr3
          rw [map_two] at hr
          have hov := HSE.out.over HO.out HUJ.out HR.out HC.out HSTL.out hsp
          have HOV := hid hov; have HR3 := hid hr
          clear hr hr3 hov hsp HS2
          obtain ⟨q, hq⟩ : ∃ q, decide (i = 0) = q := ⟨_, rfl⟩
          have HQ := hid hq
          clear hq
          go_wp2_with fail
          go_ret
          refine ⟨z, _, q, ?_, ?_, A3, X3, a3, c3, ks3, cur3, vs3, pv3, sv3, bv3, HR3.out⟩
          · show Ending.returned (.bool ((i : Int) == 0)) = _
            rw [← HQ.out, show ((i : Int) == 0) = decide (i = 0) by by_cases h : i = 0 <;> simp [h]]
          · have := HOV.out
            rw [HI.out, HQ.out] at this
            exact this
  · have hfl := Stl.fail (ar := arAt L) hsp
    have HFL := hid hfl; have HRES := hid hres
    clear hfl hsp hres n2 HST
    go_wp2_with fail
    go_loopw [5, 6, 7, 8] (fun lv ov _ _ wr => lv = .int .i64 0 ∧ ov = .bool false ∧ wr = w1) (fun _ _ _ _ _ => 0)
    case atStart => exact ⟨rfl, rfl, rfl⟩
    case round =>
      obtain ⟨rfl, rfl, rfl⟩ := hrel
      go_wp2_with fail
      go_ret
      exact ⟨z, l1, false, rfl, HFL.out, HRES.out⟩
theorem settle_any : ∀ k, SetOk k
  | 0 => fun w0 S n cap B b o L X A x l a c ks cur ps vs pv sv bv W _ _ _ _ _ _ _ _ hk => by rw [size_nd] at hk; omega
  | k + 1 => settle_step (settle_any k)
end Go.Proofs.Ytokbgbbkopmngaa
/- Down. -/
namespace Go.Proofs.Ytokbgbbkopmngaa
open Go.RowKit Go.Deep

/-- The record's steps, as a list. -/
theorem Wk.list {W : World} {X : Bl} {N0 B : Nat} {S : Option Addr} {n cap : Nat} {ps : List Int} {vs : List Wv} {pv sv bv : Value} (h : Wk W X N0 B S n cap ps vs pv sv bv) (hl : vs.length ≤ 1048576) : ∃ a c, sv = .slice a vs.length c ∧ vs.length ≤ c ∧ c ≤ maxLen ∧ StpsAt W a vs.length (vs.map fun x => x.b.st) := by
  rcases h.steps.2 with ⟨h1, h2⟩ | ⟨g, c, cur, h1, h2, h3, h4, h5, h6, h7⟩
  · have e : vs = [] := List.length_eq_zero_iff.1 h2
    subst e
    exact ⟨none, 0, h1, Nat.zero_le _, Nat.zero_le _, ⟨rfl, Nat.zero_le _, fun i hi => absurd hi (by simp)⟩⟩
  · refine ⟨some ⟨g, 0, none⟩, c, h1, h4, h5, ⟨by rw [List.length_map], hl, fun i hi => ?_⟩⟩
    have hi' : i < vs.length := by rwa [List.length_map] at hi
    have o := h.all vs[i] (List.getElem_mem hi')
    have cell : ∀ k v, k < 5 → (wsC vs[i])[k]? = some v → W.cell? ⟨g, 0 + i * 5 + k, none⟩ = some v := fun k v hk hv => by
      refine cell_box h3 ?_
      have e1 := (flat5_at ws5 vs i k hi' hk).trans hv
      rw [← h7, List.getElem?_take] at e1
      split at e1
      · rw [Array.getElem?_toList] at e1; rw [Nat.zero_add]; exact e1
      · cases e1
    refine ⟨g, 0, vs[i].a, vs[i].b.path.length, vs[i].c, rfl, ?_⟩
    rw [List.getElem_map]
    exact ⟨cell 0 _ (by omega) rfl, cell 1 _ (by omega) rfl, cell 2 _ (by omega) rfl, cell 3 _ (by omega) rfl, cell 4 _ (by omega) rfl, o.ints, o.few, o.fits, o.cap⟩
/-- wayDown's loop. -/
def WdL (L : List Sym) (t : Tn) (W1 : World) (X : Bl) (N0 b : Nat) (A : Bl) (cur : Array Value) (B : Nat) (S : Option Addr) (n cap : Nat) (f : Nat) (_u _v : Value) (wr : World) : Prop :=
  ∃ t' ls, f = sizeT t' ∧ DnSt (sgOf L) (arAt L) t t' ls ∧ ResE W1 X N0 b 0 A cur B S n cap [] t'.1 (kidsL t'.2) ([] ++ ls.map (pfx [])) wr
theorem pfx_nil (l : List Bs) : l.map (pfx []) = l := by
  rw [show (pfx [] : Bs → Bs) = id from rfl, List.map_id]
/-- What wayDown answers. -/
def WdEnd (L : List Sym) (t : Tn) (S : Option Addr) (n cap : Nat) (w : World) (e : Ending) (w' : World) : Prop := ∃ B ls X vs pv sv bv, e = .returned (.pointer (some ⟨B, 0, none⟩)) ∧ DnEnd (sgOf L) t ls ∧ Wk w' X w.heap.size B S n cap [] vs pv sv bv ∧ vs.map Wv.b = ls ∧ Below w.heap.size w w'
set_option maxRecDepth 100000 in
set_option maxHeartbeats 4000000 in
theorem wayDown_any (S : Option Addr) (n cap : Nat) (L : List Sym) (t : Tn) (a : Option Addr) (c : Nat) (w : World)
    (hS : SigAt w S n L) (hT : TmAt w t.1 a c t.2) (hn : sizeT t ≤ 200) (hO : (sgOf L).Ok (arAt L)) (hUJ : ∀ f u, (sgOf L).unit f = some u → (sgOf L).joins f = true) (hr : RightT (sgOf L) (arAt L) t) (hc : Cln t.2) :
    Calls Try.prog 37 #[.slice S n cap, .agg #[.string t.1.1, .int .i64 t.1.2, .slice a (lenF t.2) c]] w (WdEnd L t S n cap w) := by
  obtain ⟨W0, hW0⟩ : ∃ W0, (w.alloc (.cells #[.string t.1.1, .int .i64 t.1.2, .slice a (lenF t.2) c] 26)).alloc (.cells #[.slice S n cap, .slice none 0 0, .slice none 0 0, .slice none 0 0] 66) = W0 := ⟨_, rfl⟩
  have hb0 : Below w.heap.size w W0 := by rw [← hW0]; exact (alloc_below0 w _).alloc (by simp) _
  have hsz : W0.heap.size = w.heap.size + 2 := by rw [← hW0]; simp
  have B0 : Box W0 w.heap.size 26 #[.string t.1.1, .int .i64 t.1.2, .slice a (lenF t.2) c] := by rw [← hW0]; exact (Box.new w 26 _).over _
  have B1 : Box W0 (w.heap.size + 1) 66 #[.slice S n cap, .slice none 0 0, .slice none 0 0, .slice none 0 0] := by rw [← hW0]; exact box_new (by rw [World.size_alloc]) 66 _
  have hC := cloneF_any t.1 t.2 a c W0 (hT.below hb0)
  have d0 := B0.v (k := 0) rfl; have d1 := B0.v (k := 1) rfl; have d2 := B0.v (k := 2) rfl
  have HB0 := hid hb0; have HSZ := hid hsz; have HX0 := hid B0; have HX1 := hid B1; have HS := hid hS; have HN := hid hn; have HO := hid hO; have HUJ := hid hUJ; have HR := hid hr; have HCC := hid hc; have HC := hid hC
  clear hb0 hsz B0 B1 hS hT hn hO hUJ hr hc hC
  go_enter Try.func37, Try.ntmps37
  go_wp2_with fail
  clear hW0
  refine HC.out.mono ?_
  rintro e w1 ⟨a', c', rfl, hF1, hb1, _⟩
  have X0 := HX0.out.below hb1; have X1 := HX1.out.below hb1
  have x0 := X0.v (k := 0) rfl; have x1 := X0.v (k := 1) rfl; have x2 := X0.v (k := 2) rfl
  have xf0 := X0.f 0; have xf1 := X0.f 1; have xf2 := X0.f 2
  obtain ⟨W1, hW1⟩ : ∃ W1, ((w1.setCell ⟨w.heap.size, 0, none⟩ (.string t.1.1)).setCell ⟨w.heap.size, 1, none⟩ (.int .i64 t.1.2)).setCell ⟨w.heap.size, 2, none⟩ (.slice a' (lenF t.2) c') = W1 := ⟨_, rfl⟩
  have hsz0 := HSZ.out
  have hs1 := hb1.size
  have hFr : Fr (fun q => q = w.heap.size) w1 W1 := by rw [← hW1]; exact sets3_fr _ _ _
  have hsW : W1.heap.size = w1.heap.size := by rw [← hW1]; simp
  have Y0 : Box W1 w.heap.size 26 #[.string t.1.1, .int .i64 t.1.2, .slice a' (lenF t.2) c'] := by rw [← hW1]; exact sets3_box X0 _ _ _
  have Y1 := X1.fr hFr (by omega)
  have hF2 : FulTm W1 (fun q => W0.heap.size ≤ q) t.1 a' c' t.2 := hF1.keep (fun q hq hlt => hFr.same q hlt (by omega))
  have hbW : Below w.heap.size w W1 := (HB0.out.trans (hb1.mono HB0.out.size)).trans (hFr.below (fun k hk => by omega) (by omega))
  obtain ⟨ks, hks, hPl⟩ := pl_of_ful Y0 hF2 (by omega)
  have hNod : Nod W1 (fun q => q = w.heap.size + 1) w.heap.size w.heap.size 0 (fun q => W0.heap.size ≤ q ∧ q < W1.heap.size) t.1 (kidsL t.2) a' c' ks #[.string t.1.1, .int .i64 t.1.2, .slice a' (lenF t.2) c'] :=
    ⟨hPl.within, hks, fun q hq => ⟨by omega, hq.2⟩, fun q hq e => by have e : q = w.heap.size + 1 := e; omega, fun e => by have e : w.heap.size = w.heap.size + 1 := e; omega, Nat.le_refl _⟩
  have hWk : Wk W1 (fun q => q = w.heap.size + 1) w.heap.size (w.heap.size + 1) S n cap [] [] (.slice none 0 0) (.slice none 0 0) (.slice none 0 0) :=
    ⟨Y1, rfl, World.ownsRow_nil _ _ _ _, World.ownsRow_nil _ _ _ _, World.ownsRow_nil _ _ _ _, fun g e => (by cases e), fun g e => (by cases e), fun g e => (by cases e), fun g e => (by cases e), fun x hx => (by cases hx), fun q hq => by have hq : q = w.heap.size + 1 := hq; omega⟩
  obtain ⟨cur, hcur⟩ : ∃ cur, (#[.string t.1.1, .int .i64 t.1.2, .slice a' (lenF t.2) c'] : Array Value) = cur := ⟨_, rfl⟩
  rw [hcur] at hNod
  have H0 : Hid (WdL L t W1 (fun q => q = w.heap.size + 1) w.heap.size w.heap.size (fun q => W0.heap.size ≤ q ∧ q < W1.heap.size) cur (w.heap.size + 1) S n cap (sizeT t) (.bool true) (.bool true) W1) := hid ⟨t, [], rfl, DnSt.start, _, _, _, _, _, _, _, _, _, _, Res.self hNod hWk (Below.refl _ W1)⟩
  obtain ⟨mu, hmu⟩ := count_of2 (WdL L t W1 (fun q => q = w.heap.size + 1) w.heap.size w.heap.size (fun q => W0.heap.size ≤ q ∧ q < W1.heap.size) cur (w.heap.size + 1) S n cap)
  have HMU := hid hmu; have HND := hid hNod; have HWK := hid hWk; have HBW := hid hbW
  clear hF1 hb1 X0 X1 hFr Y0 Y1 hF2 hbW hPl hks hNod hWk hcur hmu hs1 hsW d0 d1 d2 HC
  go_wp2_with fail
  clear x0 x1 x2 xf0 xf1 xf2
  try rw [hW1]
  clear hW1
  go_loopw [11, 12, 13] (fun _ _ _ wr => ∃ f, WdL L t W1 (fun q => q = w.heap.size + 1) w.heap.size w.heap.size (fun q => W0.heap.size ≤ q ∧ q < W1.heap.size) cur (w.heap.size + 1) S n cap f (.bool true) (.bool true) wr) (fun _ _ _ wr => mu (.bool true) (.bool true) wr)
  case atStart => exact ⟨_, H0.out⟩
  case round =>
    obtain ⟨f, hrs⟩ := hrel
    obtain ⟨t', ls, hf, hdn, A', X', a2, c2, ks2, cur2, vs2, pv2, sv2, bv2, hres⟩ := (HMU.out _ _ _ _ hrs).1
    have hlw := Res.low HBW.out HND.out HWK.out hres
    have hrk := Runs.ok HO.out HUJ.out HR.out HCC.out hdn.runs
    have hnd := nd_self hrk.2.1
    have hvl : vs2.length = ls.length := by have := congrArg List.length hres.list; simpa using this
    have hsz2 := hdn.size
    have hcost := hdn.cost
    have hsq : sizeT t * sizeT t ≤ 40000 := Nat.mul_le_mul HN.out HN.out
    have hse := settle_any (sizeT t') w S n cap (w.heap.size + 1) w.heap.size 0 L X' A' t'.1 (kidsL t'.2) a2 c2 ks2 cur2 [] vs2 pv2 sv2 bv2 wr HS.out hlw hres.nod hres.wk HO.out HUJ.out (by rw [hnd]; exact hrk.1) (by rw [hnd]; exact hrk.2.1) (by rw [hnd]; exact Nat.le_refl _) (by rw [hnd]; have := HN.out; omega) (by rw [hnd]; have := HN.out; simp; omega) (by rw [hnd]; omega)
    rw [hnd] at hse
    have HSE := hid hse; have HRES := hid hres; have HDN := hid hdn; have HF := hid hf
    clear hrs hf hdn hres hlw hrk hnd hvl hsz2 hcost hsq hse H0
    go_wp2_with fail
    refine HSE.out.mono ?_
    rintro e w2 ⟨t2, lk, ok, rfl, hst, A3, X3, a3, c3, ks3, cur3, vs3, pv3, sv3, bv3, hr3⟩
    have hr := HRES.out.trans hr3
    rw [HRES.out.list, map_two] at hr
    have HST := hid hst; have HRR := hid hr
    clear hst hr hr3 HSE
    cases ok with
    | true =>
      go_wp2_with fail
      go_ret
      obtain ⟨_, hend⟩ := HDN.out.fin HO.out HUJ.out HR.out HCC.out HST.out
      refine ⟨w.heap.size + 1, _, X3, vs3, pv3, sv3, bv3, rfl, hend, HRR.out.wk, ?_, Res.low HBW.out HND.out HWK.out HRR.out⟩
      rw [HRR.out.list, pfx_nil]
      rfl
    | false =>
      have HNW : Hid (WdL L t W1 (fun q => q = w.heap.size + 1) w.heap.size w.heap.size (fun q => W0.heap.size ≤ q ∧ q < W1.heap.size) cur (w.heap.size + 1) S n cap (sizeT t2) (.bool true) (.bool true) w2) := hid ⟨t2, _, rfl, HDN.out.more HST.out, A3, X3, a3, c3, ks3, cur3, vs3, pv3, sv3, bv3, HRR.out⟩
      clear HRES HRR
      go_wp2_with fail
      go_roundw
      case rel => exact ⟨_, HNW.out⟩
      case measure =>
        have h1 := (HMU.out _ _ _ _ HNW.out).2
        have h2 := HF.out
        have h3 := (HST.out.no rfl).1
        omega
end Go.Proofs.Ytokbgbbkopmngaa
/- The document's node, swap. -/
namespace Go.Proofs.Ytokbgbbkopmngaa
open Go.RowKit Go.Deep

set_option maxRecDepth 100000 in
set_option maxHeartbeats 4000000 in
theorem dnode_swap (S : Option Addr) (n cap : Nat) (L : List Sym) (t : Tn) (a : Option Addr) (c : Nat) (p : Sp) (pa : Option Addr) (pn pc : Nat) (w : World)
    (hS : SigAt w S n L) (hT : TmAt w t.1 a c t.2) (hn : nodesF t.2 ≤ 1048576) (hG : gathN (sgOf L) t = true → 2 ≤ lenF t.2) (hk : p.kind = 3) :
    Calls Try.prog 33 #[.slice S n cap, .agg #[.string t.1.1, .int .i64 t.1.2, .slice a (lenF t.2) c], stepV p pa pn pc] w (NodeEnd w (stepN (sgOf L) t p)) := by
  obtain ⟨kd, at_, many, sym⟩ := p
  obtain ⟨W0, hW0⟩ : ∃ W0, ((w.alloc (.cells #[.string t.1.1, .int .i64 t.1.2, .slice a (lenF t.2) c] 26)).alloc (.cells #[.int .i64 kd, .slice pa pn pc, .int .i64 at_, .int .i64 many, .int .i64 sym] 39)).alloc (.cells #[.string ⟨#[]⟩, .int .i64 0, .slice none 0 0] 26) = W0 := ⟨_, rfl⟩
  have hb0 : Below w.heap.size w W0 := by rw [← hW0]; exact ((alloc_below0 w _).alloc (by simp) _).alloc (by simp; omega) _
  have B0 : Box W0 w.heap.size 26 (tmC t a c) := by rw [← hW0]; exact ((Box.new w 26 _).over _).over _
  have B1 : Box W0 (w.heap.size + 1) 39 (stepC ⟨kd, at_, many, sym⟩ pa pn pc) := by rw [← hW0]; exact (box_new (by rw [World.size_alloc]) 39 _).over _
  have B2 : Box W0 (w.heap.size + 2) 26 (tmC ((⟨#[]⟩, 0), .nil) none 0) := by rw [← hW0]; exact box_new (by rw [World.size_alloc, World.size_alloc]) 26 _
  have hsz : W0.heap.size = w.heap.size + 3 := by rw [← hW0]; simp
  have HJ := hid (djoins_any S n cap L t a c W0 (hS.below hb0))
  have d0 := B0.v (k := 0) rfl; have d1 := B0.v (k := 1) rfl; have d2 := B0.v (k := 2) rfl
  have hlen := len_nodes t.2
  have hcc := hT.sizes.len; have hcm := hT.sizes.cap
  unfold maxLen at hcm
  have HB0 := hid hb0; have HX0 := hid B0; have HX1 := hid B1; have HX2 := hid B2; have HS := hid hS; have HT := hid hT; have HN := hid hn; have HG := hid hG; have HSZ := hid hsz
  clear hb0 B0 B1 B2 hS hT hn hG hsz
  go_enter Try.func33, Try.ntmps33
  go_upto_region 2 with (first | (go_at_call 45; refine HJ.out.mono ?_; rintro e w1 ⟨rfl, hb1⟩; have HB1 := hid hb1; clear hb1) | fail)
  clear hW0 d0 d1 d2
  have hst1 : NSt0 w t a c ⟨kd, at_, many, sym⟩ pa pn pc w1 := ⟨HB0.out.trans (HB1.out.mono HB0.out.size), HX0.out.below HB1.out, HX1.out.below HB1.out, HX2.out.below HB1.out, by have := HSZ.out; have := HB1.out.size; omega⟩
  have HST1 := hid hst1
  have s2 := hst1.x.v (k := 2) rfl
  have n2 := hst1.n.v (k := 2) rfl
  obtain ⟨g, hg⟩ : ∃ g, gathN (sgOf L) t = g := ⟨_, rfl⟩
  rw [hg]
  have HGG := hid hg
  clear hst1 hg
  go_cut [9] (fun v w' => v = .bool (inI at_ (lenF t.2)) ∧ w' = w1)
  case first =>
    by_cases h0 : 0 ≤ at_
    · by_cases h1 : at_ < (lenF t.2 : Int)
      · have e : inI at_ (lenF t.2) = true := by unfold inI; simp [h0, h1]
        go_wp2_with fail
        go_meet
        exact ⟨by rw [e] <;> rfl, rfl⟩
      · have e : inI at_ (lenF t.2) = false := by unfold inI; simp [h1]
        go_wp2_with fail
        go_meet
        exact ⟨by rw [e] <;> rfl, rfl⟩
    · have e : inI at_ (lenF t.2) = false := by unfold inI; simp [h0]
      go_wp2_with fail
      go_meet
      exact ⟨by rw [e] <;> rfl, rfl⟩
  case rest =>
    obtain ⟨rfl, rfl⟩ := hcut
    obtain ⟨i, hi⟩ : ∃ i, inI at_ (lenF t.2) = i := ⟨_, rfl⟩
    rw [hi]
    have HII := hid hi
    have HCl := hid (rclone_any t.1 t.2 a c wc (HT.out.below HST1.out.low))
    have n0 := HST1.out.n.v (k := 0) rfl; have n1 := HST1.out.n.v (k := 1) rfl
    clear hi s2
    go_upto_region 4 with (first | (go_at_call 34; refine HCl.out.mono ?_; rintro e w2 ⟨a', c', rfl, hR2, hb2⟩; have HR2 := hid hR2; have HB2 := hid hb2; clear hR2 hb2) | fail)
    obtain ⟨V, hV⟩ : ∃ V, w2.alloc (.cells #[.string t.1.1, .int .i64 t.1.2, .slice a' (lenF t.2) c'] 26) = V := ⟨_, rfl⟩
    rw [hV]
    have hst : NSt w t a c ⟨kd, at_, many, sym⟩ pa pn pc w2.heap.size a' c' V := by rw [← hV]; exact NSt.new HST1.out HB2.out HR2.out
    have HST := hid hst
    generalize w2.heap.size = Bo at HST ⊢
    clear hst n0 n1 n2 hV HR2 HB2 HCl HST1 HX0 HX1 HX2 HJ HB1
    have s0 := HST.out.x.v (k := 0) rfl
    have hk1 : kd = 3 := hk
    subst hk1
    clear hk
    have s2 := HST.out.x.v (k := 2) rfl
    have n1 := HST.out.n.v (k := 1) rfl; have n2 := HST.out.n.v (k := 2) rfl
    cases g
    · have o0 := HST.out.o.v (k := 0) rfl; have o1 := HST.out.o.v (k := 1) rfl; have o2 := HST.out.o.v (k := 2) rfl
      have z0 := HST.out.r.v (k := 0) rfl; have z1 := HST.out.r.v (k := 1) rfl; have z2 := HST.out.r.v (k := 2) rfl
      have f0 := HST.out.r.f 0; have f1 := HST.out.r.f 1; have f2 := HST.out.r.f 2
      go_wp2_with fail
      refine ret_term rfl rfl (sets3_box HST.out.r _ _ _) rfl rfl ?_
      exact HST.out.no (by unfold stepN; rw [if_neg (by simp), if_neg (by rw [HGG.out]; simp)])
    · cases i
      · have o0 := HST.out.o.v (k := 0) rfl; have o1 := HST.out.o.v (k := 1) rfl; have o2 := HST.out.o.v (k := 2) rfl
        have z0 := HST.out.r.v (k := 0) rfl; have z1 := HST.out.r.v (k := 1) rfl; have z2 := HST.out.r.v (k := 2) rfl
        have f0 := HST.out.r.f 0; have f1 := HST.out.r.f 1; have f2 := HST.out.r.f 2
        go_wp2_with fail
        refine ret_term rfl rfl (sets3_box HST.out.r _ _ _) rfl rfl ?_
        exact HST.out.no (by unfold stepN; rw [if_neg (by simp), if_neg (by rw [HII.out]; simp)])
      · obtain ⟨k, hk, hlt⟩ := inI_iff.1 HII.out
        have hk' : at_ = (k : Int) := hk
        subst hk'
        have hrt : stepN (sgOf L) t ⟨3, k, many, sym⟩ = swapN t ⟨3, k, many, sym⟩ := by unfold stepN; rw [if_neg (by simp), if_pos ⟨HGG.out, HII.out⟩, if_neg (by simp), if_neg (by simp), if_pos rfl]
        have HRT := hid hrt
        have hnn := HN.out
        have hlf : lenF t.2 ≤ 1048576 := by omega
        have hk0 : (0 : Int) ≤ (k : Int) := by omega
        have hkn : (k : Int) < (lenF t.2 : Int) := by omega
        have hw1 : IntKind.i64.wrap ((lenF t.2 : Int) - 1) = (lenF t.2 : Int) - 1 := IntWalk.i64_in _ (by constructor <;> omega)
        clear hrt hk hnn
        by_cases hla : (k : Int) = (lenF t.2 : Int) - 1
        · have hlb : ((k : Int) == (lenF t.2 : Int) - 1) = true := by simp [hla]
          have HLA := hid hla
          clear hla
          have o0 := HST.out.o.v (k := 0) rfl; have o1 := HST.out.o.v (k := 1) rfl; have o2 := HST.out.o.v (k := 2) rfl
          have z0 := HST.out.r.v (k := 0) rfl; have z1 := HST.out.r.v (k := 1) rfl; have z2 := HST.out.r.v (k := 2) rfl
          have f0 := HST.out.r.f 0; have f1 := HST.out.r.f 1; have f2 := HST.out.r.f 2
          go_wp2_with fail
          refine ret_term rfl rfl (sets3_box HST.out.r _ _ _) rfl rfl ?_
          exact HST.out.no (by rw [HRT.out]; unfold swapN; have hz : (kidsL t.2)[k + 1]? = none := List.getElem?_eq_none_iff.2 (by rw [kids_len]; have := HLA.out; omega); simp only [Int.toNat_natCast, hz]; split <;> simp_all)
        · have hlb : ((k : Int) == (lenF t.2 : Int) - 1) = false := by simp [hla]
          have hlt1 : k + 1 < lenF t.2 := by omega
          obtain ⟨bb, oo, rfl, hkk⟩ := HT.out.args.get (by omega)
          obtain ⟨y, a1, c1, l1, kd0⟩ := hkk.kid (k := k) hlt
          obtain ⟨z, a2, c2, l2, kd1⟩ := hkk.kid (k := k + 1) hlt1
          have hgy := kid_get kd0
          have hgz := kid_get kd1
          obtain ⟨Fy, hFy⟩ : ∃ Fy, mkF (layL (kidsL t.2) k 2 [(z, l2), (y, l1)]) = Fy := ⟨_, rfl⟩
          have HRS : Hid (stepN (sgOf L) t ⟨3, k, many, sym⟩ = some ((t.1, Fy), ⟨3, k, 0, 0⟩)) := by
            show _ = _
            rw [HRT.out]
            unfold swapN
            simp only [Int.toNat_natCast, hgy, hgz, hFy]
          have HKS : Hid (kidsL (setF (k + 1) (setF k t.2 (z, l2)) (y, l1)) = kidsL Fy) := by show _ = _; rw [swap_kids hgy hgz, ← hFy, kids_mk]
          obtain ⟨g, hg, hsw⟩ := HST.out.sw (by omega)
          subst hg
          have HSW := hid hsw
          have hbl : bb < w.heap.size := World.block_lt_of_cell? w _ kd0.name
          have HNE : Hid (Bo ≠ g ∧ w.heap.size ≠ g ∧ w.heap.size + 1 ≠ g ∧ bb ≠ g) := ⟨hsw.ne, by have := hsw.row.lo; omega, by have := hsw.row.lo; omega, by have := hsw.row.lo; omega⟩
          have HCZ : Hid (∀ W, Below V.heap.size V W → Calls Try.prog 34 #[.agg #[.string z.1, .int .i64 z.2, .slice a2 (lenF l2) c2]] W fun e w' => ∃ a' c', e = .returned (.agg #[.string z.1, .int .i64 z.2, .slice a' (lenF l2) c']) ∧ RowTm W.heap.size w' z a' c' l2 ∧ Below W.heap.size W w') := fun W hW => rclone_any z l2 a2 c2 W ((kd1.below (HST.out.low)).at_.below hW)
          have HCY : Hid (∀ W, Below w.heap.size w W → Calls Try.prog 34 #[.agg #[.string y.1, .int .i64 y.2, .slice a1 (lenF l1) c1]] W fun e w' => ∃ a' c', e = .returned (.agg #[.string y.1, .int .i64 y.2, .slice a' (lenF l1) c']) ∧ RowTm W.heap.size w' y a' c' l1 ∧ Below W.heap.size W w') := fun W hW => rclone_any y l1 a1 c1 W (kd0.below hW).at_
          have o2 := HST.out.o.v (k := 2) rfl
          have kdV := kd1.below HST.out.low
          have p0 := kdV.name; have p1 := kdV.sym; have p2 := kdV.list
          have HKD := hid kd0
          have hwk : IntKind.i64.wrap ((k : Int) + 1) = (k : Int) + 1 := IntWalk.i64_in _ (by constructor <;> omega)
          have hk1n : ((k : Int) + 1).toNat = k + 1 := by omega
          have hk10 : (0 : Int) ≤ (k : Int) + 1 := by omega
          have hk1l : (k : Int) + 1 < (lenF t.2 : Int) := by omega
          clear hla kd0 kd1 hgy hgz hFy hsw hbl kdV hkk
          go_wp2_with fail
          go_cut [9] (fun v w' => v = .bool true ∧ SwSt w t (some ⟨bb, oo, none⟩) c ⟨3, k, many, sym⟩ pa pn pc Bo g c' (setF k t.2 (z, l2)) w')
          case first =>
            go_region_held3 (fun w' => w'.cell? ⟨Bo, 2, none⟩ = some (.slice (some ⟨g, 0, none⟩) (lenF t.2) c') ∧ w'.cell? ⟨w.heap.size, 2, none⟩ = some (.slice (some ⟨bb, oo, none⟩) (lenF t.2) c) ∧ w'.cell? ⟨w.heap.size + 1, 2, none⟩ = some (.int .i64 k) ∧ w'.cell? ⟨bb, oo + (k + 1) * 3, none⟩ = some (.string z.1) ∧ w'.cell? ⟨bb, oo + (k + 1) * 3 + 1, none⟩ = some (.int .i64 z.2) ∧ w'.cell? ⟨bb, oo + (k + 1) * 3 + 2, none⟩ = some (.slice a2 (lenF l2) c2)) ((first | (go_split_ands; refine ⟨?_, ?_, ?_, ?_, ?_, ?_⟩ <;> ((with_reducible refine below_cell HB5.out _ _ ?_); assumption)) | (have hqq := HB5.out; clear hqq; go_split_ands; refine ⟨?_, ?_, ?_, ?_, ?_, ?_⟩ <;> (refine keep_sets HB5.out (by assumption) ?_; first | exact HNE.out.1 | exact HNE.out.2.1 | exact HNE.out.2.2.1 | exact HNE.out.2.2.2)) | go_keep | fail)) ((first | (go_at_call 34; (with_reducible refine Calls.mono (HCZ.out (World.drew V) (Below.refl _ V).drew) ?_); rintro e w5 ⟨a5, c5, rfl, hR5, hb5⟩; have HO5 : Hid (OwnTm false (fun q => V.heap.size ≤ q) w5 z a5 c5 l2) := hR5.own; have HB5 : Hid (Below V.heap.size V w5) := ((Below.refl _ V).drew).trans hb5; have hg5 := HSW.out.row.below HB5.out; obtain ⟨cur5, hcur5⟩ := hg5.blk; obtain ⟨qx, qa, qc, ql, kd5⟩ := hg5.kids.kids.kid (k := k) (by rw [HSW.out.len]; omega); have v0 := kd5.name; have v1 := kd5.sym; have v2 := kd5.list; rw [Nat.zero_add] at v0 v1 v2; have vf0 := row_frozen (i := k * 3) hcur5; have vf1 := row_frozen (i := k * 3 + 1) hcur5; have vf2 := row_frozen (i := k * 3 + 2) hcur5; clear hg5 hcur5 kd5 hR5 hb5) | fail))
            all_goals (go_wp2_with fail; go_meet)
            all_goals exact ⟨rfl, HSW.out.put HB5.out (by omega) HO5.out⟩
          case rest =>
            obtain ⟨rfl, hsw2⟩ := hcut
            obtain ⟨V2, rfl⟩ : ∃ V2, V2 = wc := ⟨_, rfl⟩
            have HCY2 : Hid (∀ W, Below V2.heap.size V2 W → Calls Try.prog 34 #[.agg #[.string y.1, .int .i64 y.2, .slice a1 (lenF l1) c1]] W fun e w' => ∃ a' c', e = .returned (.agg #[.string y.1, .int .i64 y.2, .slice a' (lenF l1) c']) ∧ RowTm W.heap.size w' y a' c' l1 ∧ Below W.heap.size W w') := fun W hW => HCY.out W (hsw2.low.trans (hW.mono hsw2.low.size))
            clear HSW HCZ n1 n2 s2 o2 p0 p1 p2 HST
            have HSW := hid hsw2
            have kdV := HKD.out.below hsw2.low
            have n2 := hsw2.n.v (k := 2) rfl
            have s2 := hsw2.x.v (k := 2) rfl
            have o2 := hsw2.o.v (k := 2) rfl
            have p0 := kdV.name; have p1 := kdV.sym; have p2 := kdV.list
            clear hsw2 kdV HCY HKD
            go_wp2_with fail
            go_cut [9] (fun v w' => v = .bool true ∧ SwSt w t (some ⟨bb, oo, none⟩) c ⟨3, k, many, sym⟩ pa pn pc Bo g c' (setF (k + 1) (setF k t.2 (z, l2)) (y, l1)) w')
            case first =>
              go_region_held3 (fun w' => w'.cell? ⟨Bo, 2, none⟩ = some (.slice (some ⟨g, 0, none⟩) (lenF t.2) c') ∧ w'.cell? ⟨w.heap.size, 2, none⟩ = some (.slice (some ⟨bb, oo, none⟩) (lenF t.2) c) ∧ w'.cell? ⟨w.heap.size + 1, 2, none⟩ = some (.int .i64 k) ∧ w'.cell? ⟨bb, oo + k * 3, none⟩ = some (.string y.1) ∧ w'.cell? ⟨bb, oo + k * 3 + 1, none⟩ = some (.int .i64 y.2) ∧ w'.cell? ⟨bb, oo + k * 3 + 2, none⟩ = some (.slice a1 (lenF l1) c1)) ((first | (go_split_ands; refine ⟨?_, ?_, ?_, ?_, ?_, ?_⟩ <;> ((with_reducible refine below_cell HB5.out _ _ ?_); assumption)) | (have hqq := HB5.out; clear hqq; go_split_ands; refine ⟨?_, ?_, ?_, ?_, ?_, ?_⟩ <;> (refine keep_sets HB5.out (by assumption) ?_; first | exact HNE.out.1 | exact HNE.out.2.1 | exact HNE.out.2.2.1 | exact HNE.out.2.2.2)) | go_keep | fail)) ((first | (go_at_call 34; (with_reducible refine Calls.mono (HCY2.out (World.drew V2) (Below.refl _ V2).drew) ?_); rintro e w5 ⟨a5, c5, rfl, hR5, hb5⟩; have HO5 : Hid (OwnTm false (fun q => V2.heap.size ≤ q) w5 y a5 c5 l1) := hR5.own; have HB5 : Hid (Below V2.heap.size V2 w5) := ((Below.refl _ V2).drew).trans hb5; have hg5 := HSW.out.row.below HB5.out; obtain ⟨cur5, hcur5⟩ := hg5.blk; obtain ⟨qx, qa, qc, ql, kd5⟩ := hg5.kids.kids.kid (k := (k + 1)) (by rw [HSW.out.len]; omega); have v0 := kd5.name; have v1 := kd5.sym; have v2 := kd5.list; rw [Nat.zero_add] at v0 v1 v2; have vf0 := row_frozen (i := (k + 1) * 3) hcur5; have vf1 := row_frozen (i := (k + 1) * 3 + 1) hcur5; have vf2 := row_frozen (i := (k + 1) * 3 + 2) hcur5; clear hg5 hcur5 kd5 hR5 hb5) | fail))
              all_goals (go_wp2_with fail; go_meet)
              all_goals exact ⟨rfl, HSW.out.put HB5.out (by omega) HO5.out⟩
            case rest =>
              obtain ⟨rfl, hsw3⟩ := hcut
              have hy := hsw3.done HKS.out
              have hlF : lenF Fy = lenF t.2 := by rw [← kids_len, ← HKS.out, kids_len]; exact hsw3.len
              have HY := hid hy
              have o0 := hy.o.v (k := 0) rfl; have o1 := hy.o.v (k := 1) rfl
              have HLF := hid hlF
              clear o2 n2 s2 p0 p1 p2
              have o2 := hsw3.o.v (k := 2) rfl
              have z0 := hy.r.v (k := 0) rfl; have z1 := hy.r.v (k := 1) rfl; have z2 := hy.r.v (k := 2) rfl
              have f0 := hy.r.f 0; have f1 := hy.r.f 1; have f2 := hy.r.f 2
              clear hy hsw3 hlF
              go_wp2_with fail
              refine ret_term rfl rfl (sets3_box HY.out.r _ _ _) rfl rfl ?_
              have := HY.out.yes HRS.out (x0 := .string t.1.1) (x1 := .int .i64 t.1.2) (x2 := .slice (some ⟨g, 0, none⟩) (lenF t.2) c')
              unfold tmC at this
              rw [show lenF ((t.1, Fy) : Tn).2 = lenF t.2 from HLF.out] at this
              exact this
end Go.Proofs.Ytokbgbbkopmngaa
/- The document's grow. -/
namespace Go.Proofs.Ytokbgbbkopmngaa
open Go.RowKit Go.Deep

/-- grow's boxes. -/
structure GSt (w : World) (t : Tn) (a : Option Addr) (c : Nat) (p : Sp) (pa : Option Addr) (pn pc Bo : Nat) (u : Int) (V : World) : Prop extends NSt0 w t a c p pa pn pc V where
  o : Box V Bo 26 #[.string ⟨#[]⟩, .int .i64 u, .slice none 0 0]
  far : w.heap.size + 2 < Bo
theorem node_fin {w W : World} (hl : Below w.heap.size w W) {y : Tn} {a : Option Addr} {c : Nat} (hO : OwnTm false (fun q => w.heap.size + 3 ≤ q) W y.1 a c y.2) {r : Option (Tn × Sp)} {q : Sp} (hr : r = some (y, q)) {x0 x1 x2 : Value} :
    NodeEnd w r (.returned (.tuple #[.agg (tmC y a c), .bool true])) (((W.setCell ⟨w.heap.size + 2, 0, none⟩ x0).setCell ⟨w.heap.size + 2, 1, none⟩ x1).setCell ⟨w.heap.size + 2, 2, none⟩ x2) := by
  subst hr
  refine ⟨y, a, c, rfl, fun s e => ?_, ?_⟩
  · cases e
    exact ⟨rfl, hO.keep (fun q hq hl => (sets3_fr (B := w.heap.size + 2) x0 x1 x2).same q hl (by omega))⟩
  · exact hl.trans ((sets3_fr (B := w.heap.size + 2) x0 x1 x2).below (fun k hk => by omega) hl.size)
theorem two_own {N : Nat} {w5 : World} {k1 k2 : Kv} {x : ByteArray × Int} (hN : N ≤ w5.heap.size) (hx : x.1.size ≤ maxLen) (h1 : OwnTm false (fun q => N ≤ q) w5 k1.x k1.a k1.c k1.l) (h2 : OwnTm false (fun q => N ≤ q) w5 k2.x k2.a k2.c k2.l) :
    OwnTm false (fun q => N ≤ q) (w5.alloc (.cells #[.string k1.x.1, .int .i64 k1.x.2, .slice k1.a (lenF k1.l) k1.c, .string k2.x.1, .int .i64 k2.x.2, .slice k2.a (lenF k2.l) k2.c] 26)) x (some ⟨w5.heap.size, 0, none⟩) 2 (mkF [k1.tn, k2.tn]) := by
  obtain ⟨W, hW⟩ : ∃ W, w5.alloc (.cells #[.string k1.x.1, .int .i64 k1.x.2, .slice k1.a (lenF k1.l) k1.c, .string k2.x.1, .int .i64 k2.x.2, .slice k2.a (lenF k2.l) k2.c] 26) = W := ⟨_, rfl⟩
  have hb : Below w5.heap.size w5 W := by rw [← hW]; exact alloc_below0 _ _
  have hB : Box W w5.heap.size 26 #[.string k1.x.1, .int .i64 k1.x.2, .slice k1.a (lenF k1.l) k1.c, .string k2.x.1, .int .i64 k2.x.2, .slice k2.a (lenF k2.l) k2.c] := by rw [← hW]; exact Box.new _ _ _
  rw [hW]
  have g1 := h1.below hb
  have g2 := h2.below hb
  refine ⟨⟨hx, Nat.le_refl _, by decide, by show 2 * 48 ≤ 140737488351232; decide⟩, .inr ⟨w5.heap.size, _, rfl, hN, hB, (fun e => by cases e), ?_⟩⟩
  exact ⟨⟨k1.a, k1.c, hB.v rfl, hB.v rfl, hB.v rfl, g1.sizes, g1.list⟩, ⟨k2.a, k2.c, hB.v rfl, hB.v rfl, hB.v rfl, g2.sizes, g2.list⟩, trivial⟩
theorem const_own {N : Nat} {w : World} {u : Int} : OwnTm false (fun q => N ≤ q) w (noB, u) none 0 .nil := ⟨⟨by show (0 : Nat) ≤ _; exact Nat.zero_le _, Nat.le_refl _, Nat.zero_le _, Nat.zero_le _⟩, .inl ⟨rfl, rfl⟩⟩
theorem node_no {w W : World} (hl : Below w.heap.size w W) {y : Tn} {a : Option Addr} {c : Nat} {r : Option (Tn × Sp)} (hr : r = none) {x0 x1 x2 : Value} :
    NodeEnd w r (.returned (.tuple #[.agg (tmC y a c), .bool false])) (((W.setCell ⟨w.heap.size + 2, 0, none⟩ x0).setCell ⟨w.heap.size + 2, 1, none⟩ x1).setCell ⟨w.heap.size + 2, 2, none⟩ x2) := by
  subst hr
  refine ⟨y, a, c, rfl, fun s e => ?_, ?_⟩
  · exact absurd e (by simp)
  · exact hl.trans ((sets3_fr (B := w.heap.size + 2) x0 x1 x2).below (fun k hk => by omega) hl.size)
set_option maxRecDepth 100000 in
set_option maxHeartbeats 4000000 in
theorem dgrow_any (S : Option Addr) (n cap : Nat) (L : List Sym) (t : Tn) (a : Option Addr) (c : Nat) (p : Sp) (pa : Option Addr) (pn pc : Nat) (w : World)
    (hS : SigAt w S n L) (hT : TmAt w t.1 a c t.2) (hn : nodesF t.2 ≤ 1048576) (hG : gathN (sgOf L) t = true → 2 ≤ lenF t.2) (hUJ : ∀ f u, (sgOf L).unit f = some u → (sgOf L).joins f = true) :
    Calls Try.prog 49 #[.slice S n cap, .agg #[.string t.1.1, .int .i64 t.1.2, .slice a (lenF t.2) c], stepV p pa pn pc] w (NodeEnd w (growN (sgOf L) t p)) := by
  obtain ⟨kd, at_, many, sym⟩ := p
  obtain ⟨W0, hW0⟩ : ∃ W0, ((w.alloc (.cells #[.string t.1.1, .int .i64 t.1.2, .slice a (lenF t.2) c] 26)).alloc (.cells #[.int .i64 kd, .slice pa pn pc, .int .i64 at_, .int .i64 many, .int .i64 sym] 39)).alloc (.cells #[.string ⟨#[]⟩, .int .i64 0, .slice none 0 0] 26) = W0 := ⟨_, rfl⟩
  have hb0 : Below w.heap.size w W0 := by rw [← hW0]; exact ((alloc_below0 w _).alloc (by simp) _).alloc (by simp; omega) _
  have B0 : Box W0 w.heap.size 26 (tmC t a c) := by rw [← hW0]; exact ((Box.new w 26 _).over _).over _
  have B1 : Box W0 (w.heap.size + 1) 39 (stepC ⟨kd, at_, many, sym⟩ pa pn pc) := by rw [← hW0]; exact (box_new (by rw [World.size_alloc]) 39 _).over _
  have B2 : Box W0 (w.heap.size + 2) 26 (tmC ((⟨#[]⟩, 0), .nil) none 0) := by rw [← hW0]; exact box_new (by rw [World.size_alloc, World.size_alloc]) 26 _
  have hsz : W0.heap.size = w.heap.size + 3 := by rw [← hW0]; simp
  have hst0 : NSt0 w t a c ⟨kd, at_, many, sym⟩ pa pn pc W0 := ⟨hb0, B0, B1, B2, by omega⟩
  have HU := hid (runit_any S n cap L sym W0 (hS.below hb0))
  have d4 := B1.v (k := 4) rfl
  have hlen := len_nodes t.2
  have hcc := hT.sizes.len; have hcm := hT.sizes.cap
  unfold maxLen at hcm
  have hlf : lenF t.2 ≤ 1048576 := by omega
  obtain ⟨ui, hui⟩ : ∃ ui, unitI L sym = ui := ⟨_, rfl⟩
  have HS := hid hS; have HT := hid hT; have HG := hid hG; have HST0 := hid hst0; have HUJ := hid hUJ
  clear hb0 B0 B1 B2 hS hT hn hG hsz hst0 hUJ hlen
  go_enter Try.func49, Try.ntmps49
  cases huo : unitOk L sym
  · have HNO : Hid (growN (sgOf L) t ⟨kd, at_, many, sym⟩ = none) := by
      show _ = _
      unfold growN
      unfold unitOk at huo
      cases hq : unitAt L sym with
      | none => simp [sgOf, hq]
      | some i => rw [hq] at huo; simp at huo
    have n0 := HST0.out.n.v (k := 0) rfl; have n1 := HST0.out.n.v (k := 1) rfl; have n2 := HST0.out.n.v (k := 2) rfl
    have z0 := HST0.out.r.v (k := 0) rfl; have z1 := HST0.out.r.v (k := 1) rfl; have z2 := HST0.out.r.v (k := 2) rfl
    have f0 := HST0.out.r.f 0; have f1 := HST0.out.r.f 1; have f2 := HST0.out.r.f 2
    go_wp2_with (first | (go_at_call 53; refine HU.out.mono ?_; rintro e w9 ⟨he, hw9⟩; unfold UnitRet at he; rw [hui, huo] at he; subst he; rw [hw9]; clear hw9) | fail)
    refine ret_term rfl rfl (sets3_box HST0.out.r _ _ _) rfl rfl ?_
    exact node_no HST0.out.low HNO.out
  · obtain ⟨u, hu⟩ : ∃ u, (sgOf L).unit sym = some u := by
      unfold unitOk at huo
      cases hq : unitAt L sym with
      | none => rw [hq] at huo; simp at huo
      | some i => exact ⟨i, by simp [sgOf, hq]⟩
    have hui2 : ui = u := by
      rw [← hui]
      unfold unitI
      simp only [sgOf, Option.map_eq_some_iff] at hu
      obtain ⟨i, hi, rfl⟩ := hu
      rw [hi]
    have HGR : Hid (growN (sgOf L) t ⟨kd, at_, many, sym⟩ = if many = 1 then (if 0 ≤ at_ ∧ at_ ≤ 1 then some (((noB, sym), mkF (layL [t] at_.toNat 0 [constT u])), ⟨4, at_, 0, 0⟩) else none) else if many = 0 then (if headed sym t = true ∧ 0 ≤ at_ ∧ at_ ≤ lenF t.2 then some ((t.1, mkF (layL (kidsL t.2) at_.toNat 0 [constT u])), ⟨4, at_, 0, 0⟩) else none) else none) := by show _ = _; unfold growN; rw [hu]
    have HUU := hid hu
    have HUI := hid hui
    clear hu
    subst hui2
    go_upto_region 5 with (first | (go_at_call 53; refine HU.out.mono ?_; rintro e w9 ⟨he, hw9⟩; unfold UnitRet at he; rw [hui, huo] at he; subst he; rw [hw9]; clear hw9) | fail)
    clear hW0 d4
    obtain ⟨V, hV⟩ : ∃ V, W0.alloc (.cells #[.string ⟨#[]⟩, .int .i64 ui, .slice none 0 0] 26) = V := ⟨_, rfl⟩
    rw [hV]
    have hbV : Below W0.heap.size W0 V := by rw [← hV]; exact alloc_below0 _ _
    have hst : GSt w t a c ⟨kd, at_, many, sym⟩ pa pn pc W0.heap.size ui V := { HST0.out.below hbV with o := by rw [← hV]; exact Box.new _ _ _, far := by have := HST0.out.sz; omega }
    generalize W0.heap.size = Bo at hst ⊢
    have HST := hid hst
    clear hst hbV hV hui huo
    have n0 := HST.out.n.v (k := 0) rfl; have n1 := HST.out.n.v (k := 1) rfl; have n2 := HST.out.n.v (k := 2) rfl
    have s2 := HST.out.x.v (k := 2) rfl; have s3 := HST.out.x.v (k := 3) rfl; have s4 := HST.out.x.v (k := 4) rfl
    have o0 := HST.out.o.v (k := 0) rfl; have o1 := HST.out.o.v (k := 1) rfl; have o2 := HST.out.o.v (k := 2) rfl
    have z0 := HST.out.r.v (k := 0) rfl; have z1 := HST.out.r.v (k := 1) rfl; have z2 := HST.out.r.v (k := 2) rfl
    have f0 := HST.out.r.f 0; have f1 := HST.out.r.f 1; have f2 := HST.out.r.f 2
    have HNE : Hid (w.heap.size ≠ w.heap.size + 2 ∧ w.heap.size + 1 ≠ w.heap.size + 2 ∧ Bo ≠ w.heap.size + 2) := ⟨by omega, by omega, by have := HST.out.far; omega⟩
    by_cases hm0 : many = 0
    · subst hm0
      have e1 : ((0 : Int) == 1) = false := by decide
      by_cases hh : headed sym t = true
      · have hx := head_eq hh
        obtain ⟨⟨nm, f⟩, F⟩ := t
        obtain ⟨rfl, rfl⟩ := Prod.mk.inj hx
        have ex : noB.toList.isEmpty = true := by decide +kernel
        by_cases h0 : 0 ≤ at_
        · by_cases h1 : at_ ≤ (lenF F : Int)
          · obtain ⟨k, hk⟩ : ∃ k : Nat, at_ = k := ⟨at_.toNat, by omega⟩
            subst hk
            have hG2 : 2 ≤ lenF F := HG.out (gath_app (sgOf L) (HUJ.out f ui HUU.out))
            obtain ⟨bb, oo, rfl, hkk⟩ := HT.out.args.get (by show 0 < lenF F; omega)
            obtain ⟨F', hF'⟩ : ∃ F', mkF (layL (kidsL F) k 0 [constT ui]) = F' := ⟨_, rfl⟩
            have HRS : Hid (growN (sgOf L) ((noB, f), F) ⟨kd, k, 0, f⟩ = some (((noB, f), F'), ⟨4, k, 0, 0⟩)) := by
              show _ = _
              rw [HGR.out, if_neg (by decide), if_pos rfl, if_pos ⟨hh, h0, h1⟩]
              simp only [Int.toNat_natCast, hF']
            have HLD : Hid (∀ W, Below V.heap.size V W → Box W V.heap.size 26 #[.string ⟨#[]⟩, .int .i64 ui, .slice none 0 0] → Calls Try.prog 46 #[.slice (some ⟨bb, oo, none⟩) (lenF F) c, .int .i64 k, .int .i64 0, .slice (some ⟨V.heap.size, 0, none⟩) 1 1] W fun e w' => ∃ a5 c5, e = .returned (.slice a5 (lenF F') c5) ∧ OwnTm false (fun q => W.heap.size ≤ q) w' (noB, f) a5 c5 F' ∧ Below W.heap.size W w') := fun W hW hB4 => by
              have hbW : Below w.heap.size w W := HST.out.low.trans (hW.mono HST.out.low.size)
              have hX : ArgsAt W (some ⟨V.heap.size, 0, none⟩) (.node 0 0 (⟨#[]⟩, ui) .nil .nil) := .inr ⟨V.heap.size, 0, rfl, ⟨none, 0, hB4.v rfl, hB4.v rfl, hB4.v rfl, ⟨by show (0 : Nat) ≤ _; exact Nat.zero_le _, Nat.le_refl _, Nat.zero_le _, Nat.zero_le _⟩, .inl rfl⟩, trivial⟩
              have h0' := dlaid_any bb oo F _ c k 0 (some ⟨V.heap.size, 0, none⟩) 1 W (kids_below hkk hbW) hX (by omega) hcc (by unfold maxLen; omega) hlf (by simp [lenF])
              simp only [lenF, kidsL, Nat.zero_add] at h0'
              refine Calls.mono h0' ?_
              intro e w' h
              have := ld_term (x := (noB, f)) h (Nat.zero_le _) (by unfold layL; simp only [List.length_append, List.length_take, List.length_drop, List.length_cons, List.length_nil, kids_len]; have : lenF F ≤ 1048576 := hlf; omega)
              rw [show mkF (layL (kidsL F) k 0 [((⟨#[]⟩, ui), .nil)]) = F' from hF'] at this
              exact this
            clear hF' hkk
            go_wp2_with fail
            go_cut [7] (fun v w' => v = .bool true ∧ ∃ a5 c5 W, Below w.heap.size w W ∧ OwnTm false (fun q => w.heap.size + 3 ≤ q) W (noB, f) a5 c5 F' ∧ Box W (w.heap.size + 2) 26 (tmC ((⟨#[]⟩, 0), .nil) none 0) ∧ w' = ((W.setCell ⟨w.heap.size + 2, 0, none⟩ (.string ⟨#[]⟩)).setCell ⟨w.heap.size + 2, 1, none⟩ (.int .i64 f)).setCell ⟨w.heap.size + 2, 2, none⟩ (.slice a5 (lenF F') c5))
            case first =>
              go_region_held3 (fun w' => w'.cell? ⟨w.heap.size, 1, none⟩ = some (.int .i64 f) ∧ w'.cell? ⟨w.heap.size, 2, none⟩ = some (.slice (some ⟨bb, oo, none⟩) (lenF F) c) ∧ w'.cell? ⟨w.heap.size + 1, 2, none⟩ = some (.int .i64 k) ∧ w'.cell? ⟨Bo, 0, none⟩ = some (.string ⟨#[]⟩) ∧ w'.cell? ⟨Bo, 1, none⟩ = some (.int .i64 ui) ∧ w'.cell? ⟨Bo, 2, none⟩ = some (.slice none 0 0)) ((first | (go_split_ands; refine ⟨?_, ?_, ?_, ?_, ?_, ?_⟩ <;> ((with_reducible refine below_cell HB5.out _ _ ?_); assumption)) | (have hqq := HB5.out; clear hqq; go_split_ands; refine ⟨?_, ?_, ?_, ?_, ?_, ?_⟩ <;> (refine keep_sets (n := 0) HB5.out (by assumption) ?_; first | exact HNE.out.1 | exact HNE.out.2.1 | exact HNE.out.2.2)) | (go_split_ands; refine ⟨?_, ?_, ?_, ?_, ?_, ?_⟩ <;> (refine below_cell ((Below.refl _ V).alloc (Nat.le_refl _) _) _ _ ?_; assumption)) | go_keep | fail)) ((first | (go_at_call 46; refine Calls.mono (HLD.out (World.drew (World.alloc V (.cells #[.string ⟨#[]⟩, .int .i64 ui, .slice none 0 0] 26))) ((Below.refl _ V).alloc (Nat.le_refl _) _).drew (Box.new V 26 _)) ?_; rintro e w5 ⟨a5, c5, rfl, hO5, hb5⟩; have HO5 : Hid (OwnTm false (fun q => V.heap.size ≤ q) w5 (noB, f) a5 c5 F') := hO5.mono (fun q _ hq => by have hq : (World.drew (World.alloc V (.cells #[.string ⟨#[]⟩, .int .i64 ui, .slice none 0 0] 26))).heap.size ≤ q := hq; rw [show (World.drew (World.alloc V (.cells #[.string ⟨#[]⟩, .int .i64 ui, .slice none 0 0] 26))).heap.size = V.heap.size + 1 from World.size_alloc _ _] at hq; omega); have HB5 : Hid (Below V.heap.size V w5) := (((Below.refl _ V).alloc (Nat.le_refl _) _).drew).trans (hb5.mono (by show _ ≤ (V.alloc _).heap.size; rw [World.size_alloc]; omega)); have X5 := HST.out.r.below HB5.out; have y0 := X5.v (k := 0) rfl; have y1 := X5.v (k := 1) rfl; have y2 := X5.v (k := 2) rfl; have yf0 := X5.f 0; have yf1 := X5.f 1; have yf2 := X5.f 2; clear X5 hO5 hb5) | fail))
              all_goals (go_wp2_with fail; go_meet)
              all_goals exact ⟨rfl, a5, c5, w5, HST.out.low.trans (HB5.out.mono HST.out.low.size), HO5.out.mono (fun q _ hq => by have := HST.out.sz; omega), HST.out.r.below HB5.out, rfl⟩
            case rest =>
              obtain ⟨rfl, a5, c5, W, hl5, hO5, hr5, rfl⟩ := hcut
              have HL5 := hid hl5; have HO5 := hid hO5; have HR5 := hid hr5
              clear hl5 hO5 hr5
              go_wp2_with fail
              refine ret_term rfl rfl (sets3_box HR5.out _ _ _) rfl rfl ?_
              exact node_fin (y := ((noB, f), F')) HL5.out HO5.out HRS.out
          · have HNO : Hid (growN (sgOf L) ((noB, f), F) ⟨kd, at_, 0, f⟩ = none) := by show _ = _; rw [HGR.out, if_neg (by decide), if_pos rfl, if_neg (fun h => h1 h.2.2)]
            go_wp2_with fail
            refine ret_term rfl rfl (sets3_box HST.out.r _ _ _) rfl rfl ?_
            exact node_no (y := ((noB, f), F)) (a := a) (c := c) HST.out.low HNO.out
        · have HNO : Hid (growN (sgOf L) ((noB, f), F) ⟨kd, at_, 0, f⟩ = none) := by show _ = _; rw [HGR.out, if_neg (by decide), if_pos rfl, if_neg (fun h => h0 h.2.1)]
          go_wp2_with fail
          refine ret_term rfl rfl (sets3_box HST.out.r _ _ _) rfl rfl ?_
          exact node_no (y := ((noB, f), F)) (a := a) (c := c) HST.out.low HNO.out
      · have HNO : Hid (growN (sgOf L) t ⟨kd, at_, 0, sym⟩ = none) := by show _ = _; rw [HGR.out, if_neg (by decide), if_pos rfl, if_neg (fun h => hh h.1)]
        cases hx : t.1.1.toList.isEmpty
        · go_wp2_with fail
          refine ret_term rfl rfl (sets3_box HST.out.r _ _ _) rfl rfl ?_
          exact node_no HST.out.low HNO.out
        · have hs : (t.1.2 == sym) = false := by
            cases hs : (t.1.2 == sym)
            · rfl
            · exact absurd (by unfold headed noName; rw [hx, hs]; rfl) hh
          go_wp2_with fail
          refine ret_term rfl rfl (sets3_box HST.out.r _ _ _) rfl rfl ?_
          exact node_no HST.out.low HNO.out
    · have em0 : (many == 0) = false := by simp [hm0]
      by_cases hm1 : many = 1
      · subst hm1
        by_cases h0 : at_ = 0
        · subst h0
          have HCl : Hid (∀ W, Below V.heap.size V W → Calls Try.prog 34 #[.agg #[.string t.1.1, .int .i64 t.1.2, .slice a (lenF t.2) c]] W fun e w' => ∃ a' c', e = .returned (.agg #[.string t.1.1, .int .i64 t.1.2, .slice a' (lenF t.2) c']) ∧ RowTm W.heap.size w' t.1 a' c' t.2 ∧ Below W.heap.size W w') := fun W hW => rclone_any t.1 t.2 a c W ((HT.out.below HST.out.low).below hW)
          have HRS : Hid (growN (sgOf L) t ⟨kd, 0, 1, sym⟩ = some (((noB, sym), mkF [constT ui, t]), ⟨4, 0, 0, 0⟩)) := by show _ = _; rw [HGR.out, if_pos rfl, if_pos (by decide)]; rfl
          go_wp2_with fail
          go_cut [7] (fun v w' => v = .bool true ∧ ∃ c5 W a5, Below w.heap.size w W ∧ OwnTm false (fun q => w.heap.size + 3 ≤ q) W (noB, sym) (some ⟨a5, 0, none⟩) c5 (mkF [constT ui, t]) ∧ c5 = 2 ∧ Box W (w.heap.size + 2) 26 (tmC ((⟨#[]⟩, 0), .nil) none 0) ∧ w' = ((W.setCell ⟨w.heap.size + 2, 0, none⟩ (.string ⟨#[]⟩)).setCell ⟨w.heap.size + 2, 1, none⟩ (.int .i64 sym)).setCell ⟨w.heap.size + 2, 2, none⟩ (.slice (some ⟨a5, 0, none⟩) 2 2))
          case first =>
            go_region_held3 (fun w' => w'.cell? ⟨w.heap.size + 1, 4, none⟩ = some (.int .i64 sym) ∧ w'.cell? ⟨w.heap.size, 0, none⟩ = some (.string t.1.1) ∧ w'.cell? ⟨w.heap.size, 1, none⟩ = some (.int .i64 t.1.2) ∧ w'.cell? ⟨w.heap.size, 2, none⟩ = some (.slice a (lenF t.2) c) ∧ w'.cell? ⟨Bo, 0, none⟩ = some (.string ⟨#[]⟩) ∧ w'.cell? ⟨Bo, 1, none⟩ = some (.int .i64 ui) ∧ w'.cell? ⟨Bo, 2, none⟩ = some (.slice none 0 0)) ((first | (go_split_ands; refine ⟨?_, ?_, ?_, ?_, ?_, ?_, ?_⟩ <;> ((with_reducible refine below_cell HB5.out _ _ ?_); assumption)) | (have hqq := HB5.out; clear hqq; go_split_ands; refine ⟨?_, ?_, ?_, ?_, ?_, ?_, ?_⟩ <;> ((with_reducible refine below_cell (HB5.out.alloc HB5.out.size (.cells #[.string ⟨#[]⟩, .int .i64 ui, .slice none 0 0, .string t.1.1, .int .i64 t.1.2, .slice a5 (lenF t.2) c5] 26)) _ _ ?_); assumption)) | (have hqq := HB5.out; clear hqq; go_split_ands; refine ⟨?_, ?_, ?_, ?_, ?_, ?_, ?_⟩ <;> (refine keep_sets (n := 0) (HB5.out.alloc HB5.out.size (.cells #[.string ⟨#[]⟩, .int .i64 ui, .slice none 0 0, .string t.1.1, .int .i64 t.1.2, .slice a5 (lenF t.2) c5] 26)) (by assumption) ?_; first | exact HNE.out.1 | exact HNE.out.2.1 | exact HNE.out.2.2)) | go_keep | fail)) ((first | (go_at_call 34; (with_reducible refine Calls.mono (HCl.out (World.drew V) (Below.refl _ V).drew) ?_); rintro e w5 ⟨a5, c5, rfl, hR5, hb5⟩; have HO5 : Hid (OwnTm false (fun q => V.heap.size ≤ q) w5 t.1 a5 c5 t.2) := hR5.own; have HB5 : Hid (Below V.heap.size V w5) := ((Below.refl _ V).drew).trans hb5; have X5 := HST.out.r.below (HB5.out.alloc HB5.out.size (.cells #[.string ⟨#[]⟩, .int .i64 ui, .slice none 0 0, .string t.1.1, .int .i64 t.1.2, .slice a5 (lenF t.2) c5] 26)); have y0 := X5.v (k := 0) rfl; have y1 := X5.v (k := 1) rfl; have y2 := X5.v (k := 2) rfl; have yf0 := X5.f 0; have yf1 := X5.f 1; have yf2 := X5.f 2; clear X5 hR5 hb5) | fail))
            all_goals (go_wp2_with fail; go_meet)
            all_goals
              have hb6 : Below V.heap.size V (w5.alloc (.cells #[.string ⟨#[]⟩, .int .i64 ui, .slice none 0 0, .string t.1.1, .int .i64 t.1.2, .slice a5 (lenF t.2) c5] 26)) := HB5.out.alloc HB5.out.size _
              have hsz5 := HB5.out.size
              have hsz := HST.out.sz
              exact ⟨rfl, 2, _, w5.heap.size, HST.out.low.trans (hb6.mono HST.out.low.size), two_own (k1 := ⟨(noB, ui), .nil, none, 0⟩) (k2 := ⟨t.1, t.2, a5, c5⟩) (by omega) (Nat.zero_le _) const_own (HO5.out.mono (fun q _ hq => by omega)), rfl, HST.out.r.below hb6, rfl⟩
          case rest =>
            obtain ⟨rfl, c5, W, a5, hl5, hO5, rfl, hr5, rfl⟩ := hcut
            have HL5 := hid hl5; have HO5 := hid hO5; have HR5 := hid hr5
            clear hl5 hO5 hr5
            go_wp2_with fail
            refine ret_term rfl rfl (sets3_box HR5.out _ _ _) rfl rfl ?_
            exact node_fin (y := ((noB, sym), mkF [constT ui, t])) HL5.out HO5.out HRS.out
        · have ea0 : (at_ == 0) = false := by simp [h0]
          by_cases h1 : at_ = 1
          · subst h1
            have HCl : Hid (∀ W, Below V.heap.size V W → Calls Try.prog 34 #[.agg #[.string t.1.1, .int .i64 t.1.2, .slice a (lenF t.2) c]] W fun e w' => ∃ a' c', e = .returned (.agg #[.string t.1.1, .int .i64 t.1.2, .slice a' (lenF t.2) c']) ∧ RowTm W.heap.size w' t.1 a' c' t.2 ∧ Below W.heap.size W w') := fun W hW => rclone_any t.1 t.2 a c W ((HT.out.below HST.out.low).below hW)
            have HRS : Hid (growN (sgOf L) t ⟨kd, 1, 1, sym⟩ = some (((noB, sym), mkF [t, constT ui]), ⟨4, 1, 0, 0⟩)) := by show _ = _; rw [HGR.out, if_pos rfl, if_pos (by decide)]; rfl
            go_wp2_with fail
            go_cut [7] (fun v w' => v = .bool true ∧ ∃ c5 W a5, Below w.heap.size w W ∧ OwnTm false (fun q => w.heap.size + 3 ≤ q) W (noB, sym) (some ⟨a5, 0, none⟩) c5 (mkF [t, constT ui]) ∧ c5 = 2 ∧ Box W (w.heap.size + 2) 26 (tmC ((⟨#[]⟩, 0), .nil) none 0) ∧ w' = ((W.setCell ⟨w.heap.size + 2, 0, none⟩ (.string ⟨#[]⟩)).setCell ⟨w.heap.size + 2, 1, none⟩ (.int .i64 sym)).setCell ⟨w.heap.size + 2, 2, none⟩ (.slice (some ⟨a5, 0, none⟩) 2 2))
            case first =>
              go_region_held3 (fun w' => w'.cell? ⟨w.heap.size + 1, 4, none⟩ = some (.int .i64 sym) ∧ w'.cell? ⟨w.heap.size, 0, none⟩ = some (.string t.1.1) ∧ w'.cell? ⟨w.heap.size, 1, none⟩ = some (.int .i64 t.1.2) ∧ w'.cell? ⟨w.heap.size, 2, none⟩ = some (.slice a (lenF t.2) c) ∧ w'.cell? ⟨Bo, 0, none⟩ = some (.string ⟨#[]⟩) ∧ w'.cell? ⟨Bo, 1, none⟩ = some (.int .i64 ui) ∧ w'.cell? ⟨Bo, 2, none⟩ = some (.slice none 0 0)) ((first | (go_split_ands; refine ⟨?_, ?_, ?_, ?_, ?_, ?_, ?_⟩ <;> ((with_reducible refine below_cell HB5.out _ _ ?_); assumption)) | (have hqq := HB5.out; clear hqq; go_split_ands; refine ⟨?_, ?_, ?_, ?_, ?_, ?_, ?_⟩ <;> ((with_reducible refine below_cell (HB5.out.alloc HB5.out.size (.cells #[.string t.1.1, .int .i64 t.1.2, .slice a5 (lenF t.2) c5, .string ⟨#[]⟩, .int .i64 ui, .slice none 0 0] 26)) _ _ ?_); assumption)) | (have hqq := HB5.out; clear hqq; go_split_ands; refine ⟨?_, ?_, ?_, ?_, ?_, ?_, ?_⟩ <;> (refine keep_sets (n := 0) (HB5.out.alloc HB5.out.size (.cells #[.string t.1.1, .int .i64 t.1.2, .slice a5 (lenF t.2) c5, .string ⟨#[]⟩, .int .i64 ui, .slice none 0 0] 26)) (by assumption) ?_; first | exact HNE.out.1 | exact HNE.out.2.1 | exact HNE.out.2.2)) | go_keep | fail)) ((first | (go_at_call 34; (with_reducible refine Calls.mono (HCl.out (World.drew V) (Below.refl _ V).drew) ?_); rintro e w5 ⟨a5, c5, rfl, hR5, hb5⟩; have HO5 : Hid (OwnTm false (fun q => V.heap.size ≤ q) w5 t.1 a5 c5 t.2) := hR5.own; have HB5 : Hid (Below V.heap.size V w5) := ((Below.refl _ V).drew).trans hb5; have X5 := HST.out.r.below (HB5.out.alloc HB5.out.size (.cells #[.string t.1.1, .int .i64 t.1.2, .slice a5 (lenF t.2) c5, .string ⟨#[]⟩, .int .i64 ui, .slice none 0 0] 26)); have y0 := X5.v (k := 0) rfl; have y1 := X5.v (k := 1) rfl; have y2 := X5.v (k := 2) rfl; have yf0 := X5.f 0; have yf1 := X5.f 1; have yf2 := X5.f 2; clear X5 hR5 hb5) | fail))
              all_goals (go_wp2_with fail; go_meet)
              all_goals
                have hb6 : Below V.heap.size V (w5.alloc (.cells #[.string t.1.1, .int .i64 t.1.2, .slice a5 (lenF t.2) c5, .string ⟨#[]⟩, .int .i64 ui, .slice none 0 0] 26)) := HB5.out.alloc HB5.out.size _
                have hsz5 := HB5.out.size
                have hsz := HST.out.sz
                exact ⟨rfl, 2, _, w5.heap.size, HST.out.low.trans (hb6.mono HST.out.low.size), two_own (k1 := ⟨t.1, t.2, a5, c5⟩) (k2 := ⟨(noB, ui), .nil, none, 0⟩) (by omega) (Nat.zero_le _) (HO5.out.mono (fun q _ hq => by omega)) const_own, rfl, HST.out.r.below hb6, rfl⟩
            case rest =>
              obtain ⟨rfl, c5, W, a5, hl5, hO5, rfl, hr5, rfl⟩ := hcut
              have HL5 := hid hl5; have HO5 := hid hO5; have HR5 := hid hr5
              clear hl5 hO5 hr5
              go_wp2_with fail
              refine ret_term rfl rfl (sets3_box HR5.out _ _ _) rfl rfl ?_
              exact node_fin (y := ((noB, sym), mkF [t, constT ui])) HL5.out HO5.out HRS.out
          · have ea1 : (at_ == 1) = false := by simp [h1]
            have HNO : Hid (growN (sgOf L) t ⟨kd, at_, 1, sym⟩ = none) := by show _ = _; rw [HGR.out, if_pos rfl, if_neg (fun h => by omega)]
            go_wp2_with fail
            refine ret_term rfl rfl (sets3_box HST.out.r _ _ _) rfl rfl ?_
            exact node_no HST.out.low HNO.out
      · have em1 : (many == 1) = false := by simp [hm1]
        have HNO : Hid (growN (sgOf L) t ⟨kd, at_, many, sym⟩ = none) := by show _ = _; rw [HGR.out, if_neg hm1, if_neg hm0]
        go_wp2_with fail
        refine ret_term rfl rfl (sets3_box HST.out.r _ _ _) rfl rfl ?_
        exact node_no HST.out.low HNO.out
end Go.Proofs.Ytokbgbbkopmngaa
/- The document's node, grow. -/
namespace Go.Proofs.Ytokbgbbkopmngaa
open Go.RowKit Go.Deep

set_option maxRecDepth 100000 in
set_option maxHeartbeats 4000000 in
theorem dnode_grow (S : Option Addr) (n cap : Nat) (L : List Sym) (t : Tn) (a : Option Addr) (c : Nat) (p : Sp) (pa : Option Addr) (pn pc : Nat) (w : World)
    (hS : SigAt w S n L) (hT : TmAt w t.1 a c t.2) (hn : nodesF t.2 ≤ 1048576) (hG : gathN (sgOf L) t = true → 2 ≤ lenF t.2) (hUJ : ∀ f u, (sgOf L).unit f = some u → (sgOf L).joins f = true) (hk : p.kind = 5) :
    Calls Try.prog 33 #[.slice S n cap, .agg #[.string t.1.1, .int .i64 t.1.2, .slice a (lenF t.2) c], stepV p pa pn pc] w (NodeEnd w (stepN (sgOf L) t p)) := by
  obtain ⟨kd, at_, many, sym⟩ := p
  obtain ⟨W0, hW0⟩ : ∃ W0, ((w.alloc (.cells #[.string t.1.1, .int .i64 t.1.2, .slice a (lenF t.2) c] 26)).alloc (.cells #[.int .i64 kd, .slice pa pn pc, .int .i64 at_, .int .i64 many, .int .i64 sym] 39)).alloc (.cells #[.string ⟨#[]⟩, .int .i64 0, .slice none 0 0] 26) = W0 := ⟨_, rfl⟩
  have hb0 : Below w.heap.size w W0 := by rw [← hW0]; exact ((alloc_below0 w _).alloc (by simp) _).alloc (by simp; omega) _
  have B0 : Box W0 w.heap.size 26 (tmC t a c) := by rw [← hW0]; exact ((Box.new w 26 _).over _).over _
  have B1 : Box W0 (w.heap.size + 1) 39 (stepC ⟨kd, at_, many, sym⟩ pa pn pc) := by rw [← hW0]; exact (box_new (by rw [World.size_alloc]) 39 _).over _
  have B2 : Box W0 (w.heap.size + 2) 26 (tmC ((⟨#[]⟩, 0), .nil) none 0) := by rw [← hW0]; exact box_new (by rw [World.size_alloc, World.size_alloc]) 26 _
  have hsz : W0.heap.size = w.heap.size + 3 := by rw [← hW0]; simp
  have HJ := hid (djoins_any S n cap L t a c W0 (hS.below hb0))
  have d0 := B0.v (k := 0) rfl; have d1 := B0.v (k := 1) rfl; have d2 := B0.v (k := 2) rfl
  have hlen := len_nodes t.2
  have hcc := hT.sizes.len; have hcm := hT.sizes.cap
  unfold maxLen at hcm
  have HB0 := hid hb0; have HX0 := hid B0; have HX1 := hid B1; have HX2 := hid B2; have HS := hid hS; have HT := hid hT; have HN := hid hn; have HG := hid hG; have HSZ := hid hsz
  clear hb0 B0 B1 B2 hS hT hn hG hsz
  go_enter Try.func33, Try.ntmps33
  go_upto_region 2 with (first | (go_at_call 45; refine HJ.out.mono ?_; rintro e w1 ⟨rfl, hb1⟩; have HB1 := hid hb1; clear hb1) | fail)
  clear hW0 d0 d1 d2
  have hst1 : NSt0 w t a c ⟨kd, at_, many, sym⟩ pa pn pc w1 := ⟨HB0.out.trans (HB1.out.mono HB0.out.size), HX0.out.below HB1.out, HX1.out.below HB1.out, HX2.out.below HB1.out, by have := HSZ.out; have := HB1.out.size; omega⟩
  have HST1 := hid hst1
  have s2 := hst1.x.v (k := 2) rfl
  have n2 := hst1.n.v (k := 2) rfl
  obtain ⟨g, hg⟩ : ∃ g, gathN (sgOf L) t = g := ⟨_, rfl⟩
  rw [hg]
  have HGG := hid hg
  clear hst1 hg
  go_cut [9] (fun v w' => v = .bool (inI at_ (lenF t.2)) ∧ w' = w1)
  case first =>
    by_cases h0 : 0 ≤ at_
    · by_cases h1 : at_ < (lenF t.2 : Int)
      · have e : inI at_ (lenF t.2) = true := by unfold inI; simp [h0, h1]
        go_wp2_with fail
        go_meet
        exact ⟨by rw [e] <;> rfl, rfl⟩
      · have e : inI at_ (lenF t.2) = false := by unfold inI; simp [h1]
        go_wp2_with fail
        go_meet
        exact ⟨by rw [e] <;> rfl, rfl⟩
    · have e : inI at_ (lenF t.2) = false := by unfold inI; simp [h0]
      go_wp2_with fail
      go_meet
      exact ⟨by rw [e] <;> rfl, rfl⟩
  case rest =>
    obtain ⟨rfl, rfl⟩ := hcut
    obtain ⟨i, hi⟩ : ∃ i, inI at_ (lenF t.2) = i := ⟨_, rfl⟩
    rw [hi]
    have HII := hid hi
    have HCl := hid (rclone_any t.1 t.2 a c wc (HT.out.below HST1.out.low))
    have n0 := HST1.out.n.v (k := 0) rfl; have n1 := HST1.out.n.v (k := 1) rfl
    clear hi s2
    go_upto_region 4 with (first | (go_at_call 34; refine HCl.out.mono ?_; rintro e w2 ⟨a', c', rfl, hR2, hb2⟩; have HR2 := hid hR2; have HB2 := hid hb2; clear hR2 hb2) | fail)
    obtain ⟨V, hV⟩ : ∃ V, w2.alloc (.cells #[.string t.1.1, .int .i64 t.1.2, .slice a' (lenF t.2) c'] 26) = V := ⟨_, rfl⟩
    rw [hV]
    have hst : NSt w t a c ⟨kd, at_, many, sym⟩ pa pn pc w2.heap.size a' c' V := by rw [← hV]; exact NSt.new HST1.out HB2.out HR2.out
    have HST := hid hst
    generalize w2.heap.size = Bo at HST ⊢
    clear hst n0 n1 n2 hV HR2 HB2 HCl HST1 HX0 HX1 HX2 HJ HB1
    have s0 := HST.out.x.v (k := 0) rfl
    have hk1 : kd = 5 := hk
    have HUJ := hid hUJ
    subst hk1
    clear hk
    have n0 := HST.out.n.v (k := 0) rfl; have n1 := HST.out.n.v (k := 1) rfl; have n2 := HST.out.n.v (k := 2) rfl
    have s1 := HST.out.x.v (k := 1) rfl; have s2 := HST.out.x.v (k := 2) rfl; have s3 := HST.out.x.v (k := 3) rfl; have s4 := HST.out.x.v (k := 4) rfl
    have HGw := hid (dgrow_any S n cap L t a c ⟨5, at_, many, sym⟩ pa pn pc V (HS.out.below HST.out.low) (HT.out.below HST.out.low) HN.out HG.out HUJ.out)
    have HSE : Hid (stepN (sgOf L) t ⟨5, at_, many, sym⟩ = growN (sgOf L) t ⟨5, at_, many, sym⟩) := by show _ = _; unfold stepN; rw [if_pos rfl]
    obtain ⟨r, hr⟩ : ∃ r, growN (sgOf L) t ⟨5, at_, many, sym⟩ = r := ⟨_, rfl⟩
    rw [hr] at HGw HSE
    clear hr
    go_wp2_with fail
    refine HGw.out.mono ?_
    rintro e w5 ⟨y, a5, c5, rfl, hy5, hb5⟩
    have X5 := HST.out.r.below hb5
    have HX5 := hid X5
    have z0 := X5.v (k := 0) rfl; have z1 := X5.v (k := 1) rfl; have z2 := X5.v (k := 2) rfl
    have f0 := X5.f 0; have f1 := X5.f 1; have f2 := X5.f 2
    have HB5 := hid hb5; have HY5 := hid hy5
    clear X5 hb5 hy5 n0 n1 n2 s0 s1 s2 s3 s4
    go_wp2_with fail
    refine ret_term rfl rfl (sets3_box HX5.out _ _ _) rfl rfl ?_
    have hlow : Below w.heap.size w w5 := HST.out.low.trans (HB5.out.mono HST.out.low.size)
    refine ⟨y, a5, c5, by rw [HSE.out]; rfl, fun s e => ?_, hlow.trans ((sets3_fr (B := w.heap.size + 2) _ _ _).below (fun k hk => by omega) hlow.size)⟩
    rw [HSE.out] at e
    obtain ⟨h1, h2⟩ := HY5.out s e
    have hsz := HST.out.sz
    exact ⟨h1, (h2.keep (fun q hq hl => (sets3_fr (B := w.heap.size + 2) _ _ _).same q hl (by omega))).mono (fun q _ hq => by omega)⟩
end Go.Proofs.Ytokbgbbkopmngaa
/- What the document's At answers. -/
namespace Go.Proofs.Ytokbgbbkopmngaa
open Go.RowKit Go.Deep

theorem own_none (W : World) (B0 : Nat) : RowTm B0 W (ansT none).1 none 0 (ansT none).2 := ⟨⟨by decide, Nat.le_refl _, by simp, by simp [ansT, noT, lenF]⟩, .inl rfl⟩
theorem TBox.sets {W : World} {B : Nat} {x y : ByteArray × Int} {a b : Option Addr} {n m c d : Nat} (h : TBox W B y b m d) : TBox (((W.setCell ⟨B, 0, none⟩ (.string x.1)).setCell ⟨B, 1, none⟩ (.int .i64 x.2)).setCell ⟨B, 2, none⟩ (.slice a n c)) B x a n c := XBox.all (x := x) (y := y) h _

set_option maxRecDepth 100000 in
set_option maxHeartbeats 4000000 in
theorem rat_own (ps : List Int) (t : Tn) (a : Option Addr) (c : Nat) (pa : Option Addr) (pn pc : Nat) (w : World) (hT : TmAt w t.1 a c t.2) (hP : IntsAt w pa pn ps) (hpn : pn ≤ 9223372036854775807) :
    Calls Try.prog 25 #[.agg #[.string t.1.1, .int .i64 t.1.2, .slice a (lenF t.2) c], .slice pa pn pc] w fun e w' => ∃ a' c', e = .returned (ansV (subT ps t) a' c') ∧ OwnTm false (fun q => w.heap.size ≤ q) w' (ansT (subT ps t)).1 a' c' (ansT (subT ps t)).2 ∧ Below w.heap.size w w' := by
  have hb1 : Below w.heap.size w (w.alloc (.cells #[.string t.1.1, .int .i64 t.1.2, .slice a (lenF t.2) c] 26)) := (Below.refl _ w).alloc (Nat.le_refl _) _
  have hb2 : Below w.heap.size w ((w.alloc (.cells #[.string t.1.1, .int .i64 t.1.2, .slice a (lenF t.2) c] 26)).alloc (.cells #[.string ⟨#[]⟩, .int .i64 0, .slice none 0 0] 26)) := hb1.alloc hb1.size _
  have hbx : TBox ((w.alloc (.cells #[.string t.1.1, .int .i64 t.1.2, .slice a (lenF t.2) c] 26)).alloc (.cells #[.string ⟨#[]⟩, .int .i64 0, .slice none 0 0] 26)) w.heap.size t.1 a (lenF t.2) c := (TBox.new w _ a _ c).below ((Below.refl _ _).alloc (Nat.le_refl _) _)
  have hrx : XBox ((w.alloc (.cells #[.string t.1.1, .int .i64 t.1.2, .slice a (lenF t.2) c] 26)).alloc (.cells #[.string ⟨#[]⟩, .int .i64 0, .slice none 0 0] 26)) (w.heap.size + 1) (⟨#[]⟩, 0) (.slice none 0 0) := heap_alloc2_new w _ _
  obtain rfl := hP.len
  have HT : Hid (TmAt w t.1 a c t.2) := hT
  have HP : Hid (IntsAt w pa ps.length ps) := hP
  clear hT hP hb1
  go_enter Try.func25, Try.ntmps25
  go_wp2
  go_loopw [6] (fun i wr => ∃ (k : Nat) (t1 : Tn) (a1 : Option Addr) (c1 : Nat), k ≤ ps.length ∧ i = .int .i64 k ∧ TBox wr w.heap.size t1.1 a1 (lenF t1.2) c1 ∧ TmAt w t1.1 a1 c1 t1.2 ∧ subT (ps.drop k) t1 = subT ps t ∧ Below w.heap.size w wr ∧ XBox wr (w.heap.size + 1) (⟨#[]⟩, 0) (.slice none 0 0)) (fun i _ => ps.length - (intOf i).toNat)
  case atStart => exact ⟨0, t, a, c, Nat.zero_le _, rfl, hbx, HT.out, rfl, hb2, hrx⟩
  case round =>
    obtain ⟨k, t1, a1, c1, hk, rfl, hB, hT1, hS, hb, hX⟩ := hrel
    clear hbx hb2 hrx
    have HB : Hid (TBox wr w.heap.size t1.1 a1 (lenF t1.2) c1) := hB
    have HT1 : Hid (TmAt w t1.1 a1 c1 t1.2) := hT1
    have HS : Hid (subT (ps.drop k) t1 = subT ps t) := hS
    have HL : Hid (Below w.heap.size w wr) := hb
    have HX : Hid (XBox wr (w.heap.size + 1) (⟨#[]⟩, 0) (.slice none 0 0)) := hX
    have hnl : lenF t1.2 ≤ 9223372036854775807 := by have := hT1.sizes.len; have := hT1.sizes.cap; unfold maxLen at *; omega
    by_cases hlt : k < ps.length
    · obtain ⟨pb, po, rfl, p0'⟩ := HP.out.cells k hlt
      obtain ⟨i, hid⟩ : ∃ i, ps[k] = i := ⟨_, rfl⟩
      rw [hid] at p0'
      have p0 := below_cell hb _ _ p0'
      have b2 := hB.c2
      have HD : Hid (ps.drop k = i :: ps.drop (k + 1)) := by show _ = _; rw [List.drop_eq_getElem_cons hlt, hid]
      have hj0 : (0 : Int) ≤ (k : Int) := by omega
      have hjn : (k : Int) < (ps.length : Int) := by omega
      have hne := later_some wr
      have d0 := later_cell p0
      have d1 := later_cell b2
      clear hB hT1 hS hb hX hid
      by_cases hbad : i < 0
      · have hd : decide (i < 0) = true := by simp; omega
        have HN : Hid (subT ps t = none) := by
          show _ = _
          rw [← HS.out, HD.out, subT, kidT_bad (by omega)]
        go_wp2_with fail
        refine wp_region_later (by kernel_rfl) (by kernel_rfl) ?_
        repeat (go_big_quiet_step (fail))
        refine wpQuiet_nil ?_
        intro _ hw'
        obtain ⟨b3, hw''⟩ := hw'
        subst hw''
        have hX3 := HX.out.below b3.below
        have r0 := hX3.c0; have r1 := hX3.c1; have r2 := hX3.c2
        have f0 := hX3.f (k := 0); have f1 := hX3.f (k := 1); have f2 := hX3.f (k := 2)
        have HX3 : Hid (XBox b3.now (w.heap.size + 1) (⟨#[]⟩, 0) (.slice none 0 0)) := hX3
        have HL3 : Hid (Below w.heap.size w b3.now) := HL.out.trans (b3.below.mono HL.out.size)
        clear hX3 d0 d1 hne p0 p0' b2
        go_wp2
        refine ret_pair rfl rfl (HX3.out.all (x := (⟨#[]⟩, 0)) _) rfl ?_
        rw [HN.out]
        exact ⟨none, 0, rfl, (own_none _ w.heap.size).own, sets_below HL3.out (by omega) _ _ _⟩
      · obtain ⟨n, rfl⟩ : ∃ n : Nat, i = n := ⟨i.toNat, by omega⟩
        have hd : decide ((n : Int) < 0) = false := by simp
        by_cases hge : lenF t1.2 ≤ n
        · have hd2 : decide (lenF t1.2 ≤ n) = true := by simp; omega
          have HN : Hid (subT ps t = none) := by
            show _ = _
            rw [← HS.out, HD.out, subT, kidT_bad (by omega)]
          go_wp2_with fail
          refine wp_region_later (by kernel_rfl) (by kernel_rfl) ?_
          repeat (go_big_quiet_step (fail))
          refine wpQuiet_nil ?_
          intro _ hw'
          obtain ⟨b3, hw''⟩ := hw'
          subst hw''
          have hX3 := HX.out.below b3.below
          have r0 := hX3.c0; have r1 := hX3.c1; have r2 := hX3.c2
          have f0 := hX3.f (k := 0); have f1 := hX3.f (k := 1); have f2 := hX3.f (k := 2)
          have HX3 : Hid (XBox b3.now (w.heap.size + 1) (⟨#[]⟩, 0) (.slice none 0 0)) := hX3
          have HL3 : Hid (Below w.heap.size w b3.now) := HL.out.trans (b3.below.mono HL.out.size)
          clear hX3 d0 d1 hne p0 p0' b2
          go_wp2
          refine ret_pair rfl rfl (HX3.out.all (x := (⟨#[]⟩, 0)) _) rfl ?_
          rw [HN.out]
          exact ⟨none, 0, rfl, (own_none _ w.heap.size).own, sets_below HL3.out (by omega) _ _ _⟩
        · have hd2 : decide (lenF t1.2 ≤ n) = false := by simp; omega
          obtain ⟨g, q, rfl, hkk⟩ := HT1.out.args.get (by omega)
          obtain ⟨y, a2, c2, l2, kd⟩ := hkk.kid (k := n) (by omega)
          obtain ⟨B1, O1, sp⟩ := kd.split
          have HU : Hid ((kidsL t1.2)[n]? = some (y, l2)) := kids_split sp
          have kd' := kd.below HL.out
          have HK : Hid (TmAt w y a2 c2 l2) := kd.at_
          have hn0 : (0 : Int) ≤ (n : Int) := by omega
          have hnn : (n : Int) < (lenF t1.2 : Int) := by omega
          have k0 := kd'.name; have k1 := kd'.sym; have k2 := kd'.list
          clear hkk kd sp kd'
          go_wp2_with fail
          refine wp_region_later (by kernel_rfl) (by kernel_rfl) ?_
          repeat (go_big_quiet_step (fail))
          refine wpQuiet_nil ?_
          intro _ hw'
          obtain ⟨b3, hw''⟩ := hw'
          subst hw''
          have HX3 : Hid (XBox b3.now (w.heap.size + 1) (⟨#[]⟩, 0) (.slice none 0 0)) := HX.out.below b3.below
          have HB3 : Hid (TBox b3.now w.heap.size t1.1 (some ⟨g, q, none⟩) (lenF t1.2) c1) := HB.out.below b3.below
          have HL3 : Hid (Below w.heap.size w b3.now) := HL.out.trans (b3.below.mono HL.out.size)
          have e0 := later_cell k0 b3
          have e1 := later_cell k1 b3
          have e2 := later_cell k2 b3
          have p1 := d0 b3
          have b1 := d1 b3
          obtain ⟨W9, hW9⟩ : ∃ W9, b3.now = W9 := ⟨_, rfl⟩
          rw [hW9] at HX3 HB3 HL3 e0 e1 e2 p1 b1 ⊢
          clear hW9 d0 d1 hne p0 p0' b2 k0 k1 k2
          have u0 := HB3.out.c0
          have u1 := HB3.out.c1
          have f0 := XBox.f (k := 0) HB3.out
          have f1 := XBox.f (k := 1) HB3.out
          have f2 := XBox.f (k := 2) HB3.out
          go_wp2
          go_region
          all_goals
            go_wp2
            go_roundw
            case rel =>
              refine ⟨k + 1, (y, l2), a2, c2, by omega, by go_num, ?_, HK.out, ?_, ?_, ?_⟩
              · exact TBox.sets HB3.out
              · rw [← HS.out, HD.out, subT, kidT_is (by omega) HU.out]
              · exact (sets_below HL3.out (Nat.le_refl _) _ _ _).drew
              · exact (sets_far (by omega) _ _ _).trans HX3.out
            case measure => simp [intOf]; omega
    · have e1 : ps.drop k = [] := List.drop_eq_nil_iff.2 (by omega)
      rw [e1, subT] at hS
      have HS' : Hid (subT ps t = some t1) := hS.symm
      have x0 := hB.c0; have x1 := hB.c1; have x2 := hB.c2
      clear hB hT1 hS hb hX HS
      go_wp2_with fail
      refine (rclone_any t1.1 t1.2 a1 c1 wr (HT1.out.below HL.out)).mono ?_
      rintro e w2 ⟨a2, c2, rfl, ho2, hb⟩
      have hX3 := HX.out.below hb
      have r0 := hX3.c0; have r1 := hX3.c1; have r2 := hX3.c2
      have f0 := hX3.f (k := 0); have f1 := hX3.f (k := 1); have f2 := hX3.f (k := 2)
      have HX3 : Hid (XBox w2 (w.heap.size + 1) (⟨#[]⟩, 0) (.slice none 0 0)) := hX3
      have HL3 : Hid (Below w.heap.size w w2) := HL.out.trans (hb.mono HL.out.size)
      have HO : Hid (RowTm wr.heap.size w2 t1.1 a2 c2 t1.2) := ho2
      have hxlt := HX.out.lt
      clear hX3 hb ho2 x0 x1 x2
      go_wp2
      refine ret_pair rfl rfl (HX3.out.all (x := t1.1) _) rfl ?_
      rw [HS'.out]
      exact ⟨a2, c2, rfl, ((HO.out.keep (fun q hq _ => sets_far (by omega) _ _ _)).own.mono (fun q _ hq => Nat.le_trans HL.out.size hq)), sets_below HL3.out (by omega) _ _ _⟩
theorem rat_any (ps : List Int) (t : Tn) (a : Option Addr) (c : Nat) (pa : Option Addr) (pn pc : Nat) (w : World) (hT : TmAt w t.1 a c t.2) (hP : IntsAt w pa pn ps) (hpn : pn ≤ 9223372036854775807) :
    Calls Try.prog 25 #[.agg #[.string t.1.1, .int .i64 t.1.2, .slice a (lenF t.2) c], .slice pa pn pc] w fun e w' => ∃ a' c', e = .returned (ansV (subT ps t) a' c') ∧ TmAt w' (ansT (subT ps t)).1 a' c' (ansT (subT ps t)).2 ∧ Below w.heap.size w w' :=
  (rat_own ps t a c pa pn pc w hT hP hpn).mono fun _ _ ⟨a', c', he, ho, hb⟩ => ⟨a', c', he, ho.tm, hb⟩
end Go.Proofs.Ytokbgbbkopmngaa
/- What the document's Put answers. -/
namespace Go.Proofs.Ytokbgbbkopmngaa
open Go.RowKit Go.Deep

def RPutOk (ps : List Int) : Prop := ∀ (t u : Tn) (a ua : Option Addr) (c uc : Nat) (pa : Option Addr) (pn pc : Nat) (w : World), TmAt w t.1 a c t.2 → TmAt w u.1 ua uc u.2 → IntsAt w pa pn ps → pn ≤ pc → pc ≤ 9223372036854775807 →
  Calls Try.prog 26 #[.agg #[.string t.1.1, .int .i64 t.1.2, .slice a (lenF t.2) c], .slice pa pn pc, .agg #[.string u.1.1, .int .i64 u.1.2, .slice ua (lenF u.2) uc]] w fun e w' => ∃ a' c', e = .returned (ansV (putT u ps t) a' c') ∧ OwnTm false (fun q => w.heap.size ≤ q) w' (ansT (putT u ps t)).1 a' c' (ansT (putT u ps t)).2 ∧ Below w.heap.size w w'

theorem put_cons_none {u : Tn} {n : Nat} {p : List Int} {t k : Tn} (hn : n < lenF t.2) (hk : (kidsL t.2)[n]? = some k) (h : putT u p k = none) : putT u ((n : Int) :: p) t = none := by
  rw [putT, kidT_is (m := k.2) (x := k.1) hn hk]; simp only [h]
theorem put_cons_some {u : Tn} {n : Nat} {p : List Int} {t k k' : Tn} (hn : n < lenF t.2) (hk : (kidsL t.2)[n]? = some k) (h : putT u p k = some k') : putT u ((n : Int) :: p) t = some (t.1, setF n t.2 k') := by
  rw [putT, kidT_is (m := k.2) (x := k.1) hn hk]; simp only [h, Int.toNat_natCast]

set_option maxRecDepth 100000 in
set_option maxHeartbeats 4000000 in
theorem rput_all : ∀ ps, RPutOk ps := by
  intro ps
  induction ps with
  | nil =>
    intro t u a ua c uc pa pn pc w hT hU hP hpc hpm
    obtain rfl := hP.len
    have I0 := PutIn.new w t u a ua c uc
    obtain ⟨W, hW⟩ : ∃ W, ((w.alloc (.cells #[.string t.1.1, .int .i64 t.1.2, .slice a (lenF t.2) c] 26)).alloc (.cells #[.string u.1.1, .int .i64 u.1.2, .slice ua (lenF u.2) uc] 26)).alloc (.cells #[.string ⟨#[]⟩, .int .i64 0, .slice none 0 0] 26) = W := ⟨_, rfl⟩
    rw [hW] at I0
    have HI : Hid (PutIn w t u a ua c uc W) := I0
    have HU : Hid (TmAt w u.1 ua uc u.2) := hU
    have x0 := I0.u.c0; have x1 := I0.u.c1; have x2 := I0.u.c2
    clear I0 hT hU hP
    go_enter Try.func26, Try.ntmps26
    go_wp2_with (rw [hW])
    clear hW
    refine (rclone_any u.1 u.2 ua uc W (HU.out.below HI.out.low)).mono ?_
    rintro e w1 ⟨a1, c1, rfl, hS1, hb⟩
    have HI1 : Hid (PutIn w t u a ua c uc w1) := HI.out.below hb
    have HS1 : Hid (RowTm W.heap.size w1 u.1 a1 c1 u.2) := hS1
    have hlt := HI.out.r.lt
    clear hb hS1 x0 x1 x2
    have r0 := HI1.out.r.c0; have r1 := HI1.out.r.c1; have r2 := HI1.out.r.c2
    have f0 := HI1.out.r.f (k := 0); have f1 := HI1.out.r.f (k := 1); have f2 := HI1.out.r.f (k := 2)
    go_wp2
    refine ret_pair rfl rfl (HI1.out.r.all (x := u.1) _) rfl ?_
    exact ⟨a1, c1, rfl, (HS1.out.keep (fun q hq _ => sets_far (by omega) _ _ _)).own.mono (fun q _ hq => by have := HI.out.low.size; omega), sets_below HI1.out.low (by omega) _ _ _⟩
  | cons i p ih =>
    intro t u a ua c uc pa pn pc w hT hU hP hpc hpm
    obtain rfl := hP.len
    have I0 := PutIn.new w t u a ua c uc
    obtain ⟨W, hW⟩ : ∃ W, ((w.alloc (.cells #[.string t.1.1, .int .i64 t.1.2, .slice a (lenF t.2) c] 26)).alloc (.cells #[.string u.1.1, .int .i64 u.1.2, .slice ua (lenF u.2) uc] 26)).alloc (.cells #[.string ⟨#[]⟩, .int .i64 0, .slice none 0 0] 26) = W := ⟨_, rfl⟩
    rw [hW] at I0
    have hWs : W.heap.size = w.heap.size + 1 + 1 + 1 := by rw [← hW, World.size_alloc, World.size_alloc, World.size_alloc]
    have HI : Hid (PutIn w t u a ua c uc W) := I0
    have HT : Hid (TmAt w t.1 a c t.2) := hT
    have HU : Hid (TmAt w u.1 ua uc u.2) := hU
    have HP : Hid (IntsAt w pa (i :: p).length (i :: p)) := hP
    have IH : Hid (RPutOk p) := ih
    obtain ⟨pb, po, rfl, p0'⟩ := hP.cells 0 (by simp)
    have p0 := below_cell I0.low _ _ p0'
    simp only [List.getElem_cons_zero, Nat.add_zero] at p0
    have hlen : (i :: p).length = p.length + 1 := rfl
    rw [hlen] at hpc HP ⊢
    have b2 := I0.t.c2
    have hnl : lenF t.2 ≤ 9223372036854775807 := by have := hT.sizes.len; have := hT.sizes.cap; unfold maxLen at *; omega
    have hne := later_some W
    have d0 := later_cell p0
    have d1 := later_cell b2
    have hj0 : (0 : Int) < (p.length : Int) + 1 := by omega
    have hlz : ((p.length : Int) + 1 == 0) = false := by simp; omega
    clear I0 hT hU hP ih p0'
    by_cases hbad : i < 0
    · have hd : decide (i < 0) = true := by simp; omega
      have HN : Hid (putT u (i :: p) t = none) := by
        show _ = _
        rw [putT, kidT_bad (by omega)]
      go_enter Try.func26, Try.ntmps26
      go_wp2_with (rw [hW])
      clear hW
      refine wp_region_later (by kernel_rfl) (by kernel_rfl) ?_
      repeat (go_big_quiet_step (fail))
      refine wpQuiet_nil ?_
      intro _ hw'
      obtain ⟨b3, hw''⟩ := hw'
      subst hw''
      have HI3 : Hid (PutIn w t u a ua c uc b3.now) := HI.out.below b3.below
      have r0 := HI3.out.r.c0; have r1 := HI3.out.r.c1; have r2 := HI3.out.r.c2
      have f0 := HI3.out.r.f (k := 0); have f1 := HI3.out.r.f (k := 1); have f2 := HI3.out.r.f (k := 2)
      clear d0 d1 hne p0 b2
      go_wp2
      refine ret_pair rfl rfl (HI3.out.r.all (x := (⟨#[]⟩, 0)) _) rfl ?_
      rw [HN.out]
      exact ⟨none, 0, rfl, (own_none _ _).own, sets_below HI3.out.low (by omega) _ _ _⟩
    · obtain ⟨n, rfl⟩ : ∃ n : Nat, i = n := ⟨i.toNat, by omega⟩
      have hd : decide ((n : Int) < 0) = false := by simp
      by_cases hge : lenF t.2 ≤ n
      · have hd2 : decide (lenF t.2 ≤ n) = true := by simp; omega
        have HN : Hid (putT u ((n : Int) :: p) t = none) := by
          show _ = _
          rw [putT, kidT_bad (by omega)]
        go_enter Try.func26, Try.ntmps26
        go_wp2_with (rw [hW])
        clear hW
        refine wp_region_later (by kernel_rfl) (by kernel_rfl) ?_
        repeat (go_big_quiet_step (fail))
        refine wpQuiet_nil ?_
        intro _ hw'
        obtain ⟨b3, hw''⟩ := hw'
        subst hw''
        have HI3 : Hid (PutIn w t u a ua c uc b3.now) := HI.out.below b3.below
        have r0 := HI3.out.r.c0; have r1 := HI3.out.r.c1; have r2 := HI3.out.r.c2
        have f0 := HI3.out.r.f (k := 0); have f1 := HI3.out.r.f (k := 1); have f2 := HI3.out.r.f (k := 2)
        clear d0 d1 hne p0 b2
        go_wp2
        refine ret_pair rfl rfl (HI3.out.r.all (x := (⟨#[]⟩, 0)) _) rfl ?_
        rw [HN.out]
        exact ⟨none, 0, rfl, (own_none _ _).own, sets_below HI3.out.low (by omega) _ _ _⟩
      · have hd2 : decide (lenF t.2 ≤ n) = false := by simp; omega
        obtain ⟨g, q, rfl, hkk⟩ := HT.out.args.get (by omega)
        obtain ⟨y, a2, c2, l2, kd⟩ := hkk.kid (k := n) (by omega)
        obtain ⟨B1, O1, sp⟩ := kd.split
        have HU1 : Hid ((kidsL t.2)[n]? = some (y, l2)) := kids_split sp
        have HKT : Hid (TmAt w y a2 c2 l2) := kd.at_
        have kd' := kd.below HI.out.low
        have k0 := kd'.name; have k1 := kd'.sym; have k2 := kd'.list
        have hn0 : (0 : Int) ≤ (n : Int) := by omega
        have hnn : (n : Int) < (lenF t.2 : Int) := by omega
        have HTail : Hid (∀ pa', (pc ≠ 1 → pa' = some ⟨pb, po + 1, none⟩) → IntsAt w pa' p.length p) := fun pa' h => by
          refine ⟨rfl, fun j hj => ⟨pb, po + 1, h (by omega), ?_⟩⟩
          obtain ⟨b, off, e, hc⟩ := HP.out.cells (j + 1) (by simp; omega)
          cases e
          rw [show po + 1 + j = po + (j + 1) by omega, hc]
          simp
        have x0 := HI.out.u.c0; have x1 := HI.out.u.c1; have x2 := HI.out.u.c2
        clear hkk kd sp kd'
        go_enter Try.func26, Try.ntmps26
        go_wp2_with (rw [hW])
        clear hW
        refine wp_region_later (by kernel_rfl) (by kernel_rfl) ?_
        repeat (go_big_quiet_step (fail))
        refine wpQuiet_nil ?_
        intro _ hw'
        obtain ⟨b3, hw''⟩ := hw'
        subst hw''
        have HI3 : Hid (PutIn w t u (some ⟨g, q, none⟩) ua c uc b3.now) := HI.out.below b3.below
        have e0 := later_cell k0 b3
        have e1 := later_cell k1 b3
        have e2 := later_cell k2 b3
        have p1 := d0 b3
        have b1 := d1 b3
        have y0 := later_cell x0 b3
        have y1 := later_cell x1 b3
        have y2 := later_cell x2 b3
        have hsz3 := b3.below.size
        obtain ⟨W9, hW9⟩ : ∃ W9, b3.now = W9 := ⟨_, rfl⟩
        rw [hW9] at HI3 e0 e1 e2 p1 b1 y0 y1 y2 hsz3 ⊢
        clear hW9 d0 d1 hne p0 b2 k0 k1 k2 x0 x1 x2 HI
        obtain ⟨r, hr⟩ : ∃ r, putT u p (y, l2) = r := ⟨_, rfl⟩
        have HR : Hid (putT u p (y, l2) = r) := hr
        have HIH : Hid (∀ W' pa' pc', Below w.heap.size w W' → IntsAt w pa' p.length p → p.length ≤ pc' → pc' ≤ 9223372036854775807 → Calls Try.prog 26 #[.agg #[.string y.1, .int .i64 y.2, .slice a2 (lenF l2) c2], .slice pa' p.length pc', .agg #[.string u.1.1, .int .i64 u.1.2, .slice ua (lenF u.2) uc]] W' fun e w' => ∃ a' c', e = .returned (.tuple #[.agg #[.string (ansT r).1.1, .int .i64 (ansT r).1.2, .slice a' (lenF (ansT r).2) c'], .int .i64 (ansE r)]) ∧ OwnTm false (fun q => W'.heap.size ≤ q) w' (ansT r).1 a' c' (ansT r).2 ∧ Below W'.heap.size W' w') := fun W' pa' pc' hbl h1 h2 h3 => by
          have := IH.out (y, l2) u a2 ua c2 uc pa' p.length pc' W' (HKT.out.below hbl) (HU.out.below hbl) (h1.below hbl) h2 h3
          rw [hr] at this
          exact this
        obtain ⟨xr, hxr⟩ : ∃ xr, ansT r = xr := ⟨_, rfl⟩
        obtain ⟨er, her⟩ : ∃ er, ansE r = er := ⟨_, rfl⟩
        rw [hxr, her] at HIH
        have HXR : Hid (ansT r = xr) := hxr
        have HER : Hid (ansE r = er) := her
        have hpo : Hid (Below w.heap.size w W9) := HI3.out.low
        clear hr hxr her
        go_upto_region 5 with fail
        go_cut [8, 9] (fun v8 v9 wc => ∃ B8 a' c', v8 = .pointer (some ⟨B8, 0, none⟩) ∧ v9 = .int .i64 er ∧ TBox wc B8 xr.1 a' (lenF xr.2) c' ∧ OwnTm false (fun q => W9.heap.size ≤ q) wc xr.1 a' c' xr.2 ∧ Below W9.heap.size W9 wc)
        case first =>
          by_cases hpc1 : pc = 1
          · subst hpc1
            have hs1 : (1 : Int) ≤ (p.length : Int) + 1 := by omega
            have hs2 : (p.length : Int) + 1 ≤ (1 : Int) := by omega
            have HIH0 : Hid (∀ W', Below w.heap.size w W' → Calls Try.prog 26 #[.agg #[.string y.1, .int .i64 y.2, .slice a2 (lenF l2) c2], .slice (some ⟨pb, po, none⟩) 0 0, .agg #[.string u.1.1, .int .i64 u.1.2, .slice ua (lenF u.2) uc]] W' fun e w' => ∃ a' c', e = .returned (.tuple #[.agg #[.string xr.1.1, .int .i64 xr.1.2, .slice a' (lenF xr.2) c'], .int .i64 er]) ∧ OwnTm false (fun q => W'.heap.size ≤ q) w' xr.1 a' c' xr.2 ∧ Below W'.heap.size W' w') := fun W' hb => by
              have hp0 : p.length = 0 := by omega
              have := HIH.out W' (some ⟨pb, po, none⟩) 0 hb (HTail.out _ (fun h => absurd rfl h)) (by omega) (by omega)
              rw [hp0] at this
              exact this
            go_region_held3 (fun w' => w'.cell? ⟨w.heap.size, 2, none⟩ = some (.slice (some ⟨g, q, none⟩) (lenF t.2) c) ∧ w'.cell? ⟨pb, po, none⟩ = some (.int .i64 n) ∧ w'.cell? ⟨g, q + n * 3, none⟩ = some (.string y.1) ∧ w'.cell? ⟨g, q + n * 3 + 1, none⟩ = some (.int .i64 y.2) ∧ w'.cell? ⟨g, q + n * 3 + 2, none⟩ = some (.slice a2 (lenF l2) c2) ∧ w'.cell? ⟨w.heap.size + 1, 0, none⟩ = some (.string u.1.1) ∧ w'.cell? ⟨w.heap.size + 1, 1, none⟩ = some (.int .i64 u.1.2) ∧ w'.cell? ⟨w.heap.size + 1, 2, none⟩ = some (.slice ua (lenF u.2) uc)) ((first | (go_split_ands; refine ⟨?_, ?_, ?_, ?_, ?_, ?_, ?_, ?_⟩ <;> (refine below_cell HB2.out _ _ ?_; assumption)) | (go_split_ands; refine ⟨?_, ?_, ?_, ?_, ?_, ?_, ?_, ?_⟩ <;> (refine below_cell (HB2.out.alloc HB2.out.size _) _ _ ?_; assumption)) | (go_split_ands; refine ⟨?_, ?_, ?_, ?_, ?_, ?_, ?_, ?_⟩ <;> (refine below_cell (sets_below HB2.out (Nat.le_refl _) _ _ _) _ _ ?_; assumption)) | (go_split_ands; refine ⟨?_, ?_, ?_, ?_, ?_, ?_, ?_, ?_⟩ <;> (refine below_cell ((Below.refl _ W9).alloc (Nat.le_refl _) _) _ _ ?_; assumption)) | go_keep | fail)) ((first | (go_at_call 26; refine (HIH0.out (World.drew W9) hpo.out.drew).mono ?_; rintro e w2 ⟨a', c', rfl, hT2, hb2⟩; have HT2 : Hid (OwnTm false (fun q => W9.heap.size ≤ q) w2 xr.1 a' c' xr.2) := hT2; have HB2 : Hid (Below W9.heap.size W9 w2) := ((Below.refl _ W9).drew).trans hb2; clear hT2 hb2) | (go_at_call 26; refine (HIH0.out (World.drew (World.alloc W9 (.cells #[.string ⟨#[]⟩, .int .i64 0, .slice none 0 0] 26))) (hpo.out.alloc hpo.out.size _).drew).mono ?_; rintro e w2 ⟨a', c', rfl, hT2, hb2⟩; have HT2 : Hid (OwnTm false (fun q => W9.heap.size < q) w2 xr.1 a' c' xr.2) := hT2.mono (fun q _ hq => by rw [show (World.drew (World.alloc W9 (.cells #[.string ⟨#[]⟩, .int .i64 0, .slice none 0 0] 26))).heap.size = W9.heap.size + 1 from World.size_alloc _ _] at hq; omega); have HB2 : Hid (Below W9.heap.size W9 w2) := (((Below.refl _ W9).alloc (Nat.le_refl _) _).drew).trans (hb2.mono (by show _ ≤ (W9.alloc _).heap.size; rw [World.size_alloc]; omega)); have HX2 : Hid (XBox w2 W9.heap.size (⟨#[]⟩, 0) (.slice none 0 0)) := XBox.below (W := World.drew (World.alloc W9 (.cells #[.string ⟨#[]⟩, .int .i64 0, .slice none 0 0] 26))) (heap_alloc_new W9 _) hb2; have z0 := HX2.out.c0; have z1 := HX2.out.c1; have z2 := HX2.out.c2; have zf0 := HX2.out.f (k := 0); have zf1 := HX2.out.f (k := 1); have zf2 := HX2.out.f (k := 2); clear hT2 hb2) | fail))
            all_goals (go_wp2_with fail; go_meet)
            all_goals first
              | exact ⟨w2.heap.size, a', c', rfl, rfl, TBox.new _ _ _ _ _, HT2.out.below ((Below.refl _ _).alloc (Nat.le_refl _) _), HB2.out.alloc HB2.out.size _⟩
              | exact ⟨W9.heap.size, a', c', rfl, rfl, HX2.out.all (x := xr.1) _, (HT2.out.keep (fun q hq _ => sets_far (by omega) _ _ _)).mono (fun q _ hq => by omega), sets_below HB2.out (Nat.le_refl _) _ _ _⟩
          · have hs1 : (1 : Int) ≤ (p.length : Int) + 1 := by omega
            have hs2 : (p.length : Int) + 1 ≤ (pc : Int) := by omega
            have hs3 : (1 : Int) ≤ (pc : Int) := by omega
            go_region_held3 (fun w' => w'.cell? ⟨w.heap.size, 2, none⟩ = some (.slice (some ⟨g, q, none⟩) (lenF t.2) c) ∧ w'.cell? ⟨pb, po, none⟩ = some (.int .i64 n) ∧ w'.cell? ⟨g, q + n * 3, none⟩ = some (.string y.1) ∧ w'.cell? ⟨g, q + n * 3 + 1, none⟩ = some (.int .i64 y.2) ∧ w'.cell? ⟨g, q + n * 3 + 2, none⟩ = some (.slice a2 (lenF l2) c2) ∧ w'.cell? ⟨w.heap.size + 1, 0, none⟩ = some (.string u.1.1) ∧ w'.cell? ⟨w.heap.size + 1, 1, none⟩ = some (.int .i64 u.1.2) ∧ w'.cell? ⟨w.heap.size + 1, 2, none⟩ = some (.slice ua (lenF u.2) uc)) ((first | (go_split_ands; refine ⟨?_, ?_, ?_, ?_, ?_, ?_, ?_, ?_⟩ <;> (refine below_cell HB2.out _ _ ?_; assumption)) | (go_split_ands; refine ⟨?_, ?_, ?_, ?_, ?_, ?_, ?_, ?_⟩ <;> (refine below_cell (HB2.out.alloc HB2.out.size _) _ _ ?_; assumption)) | (go_split_ands; refine ⟨?_, ?_, ?_, ?_, ?_, ?_, ?_, ?_⟩ <;> (refine below_cell (sets_below HB2.out (Nat.le_refl _) _ _ _) _ _ ?_; assumption)) | (go_split_ands; refine ⟨?_, ?_, ?_, ?_, ?_, ?_, ?_, ?_⟩ <;> (refine below_cell ((Below.refl _ W9).alloc (Nat.le_refl _) _) _ _ ?_; assumption)) | go_keep | fail)) ((first | (go_at_call 26; refine (HIH.out (World.drew W9) _ _ hpo.out.drew (HTail.out _ (fun _ => rfl)) (by omega) (by omega)).mono ?_; rintro e w2 ⟨a', c', rfl, hT2, hb2⟩; have HT2 : Hid (OwnTm false (fun q => W9.heap.size ≤ q) w2 xr.1 a' c' xr.2) := hT2; have HB2 : Hid (Below W9.heap.size W9 w2) := ((Below.refl _ W9).drew).trans hb2; clear hT2 hb2) | (go_at_call 26; refine (HIH.out (World.drew (World.alloc W9 (.cells #[.string ⟨#[]⟩, .int .i64 0, .slice none 0 0] 26))) _ _ (hpo.out.alloc hpo.out.size _).drew (HTail.out _ (fun _ => rfl)) (by omega) (by omega)).mono ?_; rintro e w2 ⟨a', c', rfl, hT2, hb2⟩; have HT2 : Hid (OwnTm false (fun q => W9.heap.size < q) w2 xr.1 a' c' xr.2) := hT2.mono (fun q _ hq => by rw [show (World.drew (World.alloc W9 (.cells #[.string ⟨#[]⟩, .int .i64 0, .slice none 0 0] 26))).heap.size = W9.heap.size + 1 from World.size_alloc _ _] at hq; omega); have HB2 : Hid (Below W9.heap.size W9 w2) := (((Below.refl _ W9).alloc (Nat.le_refl _) _).drew).trans (hb2.mono (by show _ ≤ (W9.alloc _).heap.size; rw [World.size_alloc]; omega)); have HX2 : Hid (XBox w2 W9.heap.size (⟨#[]⟩, 0) (.slice none 0 0)) := XBox.below (W := World.drew (World.alloc W9 (.cells #[.string ⟨#[]⟩, .int .i64 0, .slice none 0 0] 26))) (heap_alloc_new W9 _) hb2; have z0 := HX2.out.c0; have z1 := HX2.out.c1; have z2 := HX2.out.c2; have zf0 := HX2.out.f (k := 0); have zf1 := HX2.out.f (k := 1); have zf2 := HX2.out.f (k := 2); clear hT2 hb2) | fail))
            all_goals (go_wp2_with fail; go_meet)
            all_goals first
              | exact ⟨w2.heap.size, a', c', rfl, rfl, TBox.new _ _ _ _ _, HT2.out.below ((Below.refl _ _).alloc (Nat.le_refl _) _), HB2.out.alloc HB2.out.size _⟩
              | exact ⟨W9.heap.size, a', c', rfl, rfl, HX2.out.all (x := xr.1) _, (HT2.out.keep (fun q hq _ => sets_far (by omega) _ _ _)).mono (fun q _ hq => by omega), sets_below HB2.out (Nat.le_refl _) _ _ _⟩
        case rest =>
          obtain ⟨B8, a8, c8, rfl, rfl, hB8, hT8, hb8⟩ := hcut
          have HB8 : Hid (TBox wc B8 xr.1 a8 (lenF xr.2) c8) := hB8
          have HT8 : Hid (OwnTm false (fun q => W9.heap.size ≤ q) wc xr.1 a8 c8 xr.2) := hT8
          have HI8 : Hid (PutIn w t u (some ⟨g, q, none⟩) ua c uc wc) := HI3.out.below hb8
          have hsz8 := hb8.size
          clear hB8 hT8 hb8 e0 e1 e2 p1 b1 y0 y1 y2 HIH
          cases r with
          | none =>
            obtain rfl : er = 35 := HER.out.symm
            have HN : Hid (putT u ((n : Int) :: p) t = none) := put_cons_none (by omega) HU1.out HR.out
            have r0 := HI8.out.r.c0; have r1 := HI8.out.r.c1; have r2 := HI8.out.r.c2
            have f0 := HI8.out.r.f (k := 0); have f1 := HI8.out.r.f (k := 1); have f2 := HI8.out.r.f (k := 2)
            go_wp2
            refine ret_pair rfl rfl (HI8.out.r.all (x := (⟨#[]⟩, 0)) _) rfl ?_
            rw [HN.out]
            exact ⟨none, 0, rfl, (own_none _ _).own, sets_below HI8.out.low (by omega) _ _ _⟩
          | some k' =>
            obtain rfl : er = 0 := HER.out.symm
            obtain rfl : xr = k' := HXR.out.symm
            have HN : Hid (putT u ((n : Int) :: p) t = some (t.1, setF n t.2 xr)) := put_cons_some (by omega) HU1.out HR.out
            have x0 := HI8.out.t.c0; have x1 := HI8.out.t.c1; have x2 := HI8.out.t.c2
            go_wp2_with fail
            refine (rclone_any t.1 t.2 (some ⟨g, q, none⟩) c wc (HT.out.below HI8.out.low)).mono ?_
            rintro e w4 ⟨a4, c4, rfl, hR4, hb4⟩
            rcases hR4.list with hnil | ⟨g4, cur, rfl, hg4, hcur, hkids⟩
            · rw [hnil] at hge; simp [lenF] at hge
            · obtain ⟨W4, hW4⟩ : ∃ W4, w4.alloc (.cells #[.string t.1.1, .int .i64 t.1.2, .slice (some ⟨g4, 0, none⟩) (lenF t.2) c4] 26) = W4 := ⟨_, rfl⟩
              have hbW : Below w4.heap.size w4 W4 := by rw [← hW4]; exact (Below.refl _ _).alloc (Nat.le_refl _) _
              have hbC : Below wc.heap.size wc W4 := hb4.trans (hbW.mono hb4.size)
              have hg4lt : g4 < w4.heap.size := (Array.getElem?_eq_some_iff.1 hcur).1
              have hcur4 : W4.heap[g4]? = some (Obj.cells cur 26 (0, 0)) := (hbW.block g4 hg4lt).trans hcur
              have hkids4 : OwnKids false (fun q => wc.heap.size ≤ q ∧ q ≠ g4) W4 t.2 g4 0 := hkids.keep (fun k _ hlt => hbW.block k hlt) (hbW.block g4 hg4lt)
              have HB10 : Hid (TBox W4 w4.heap.size t.1 (some ⟨g4, 0, none⟩) (lenF t.2) c4) := by show TBox _ _ _ _ _ _; rw [← hW4]; exact TBox.new _ _ _ _ _
              have HI4 : Hid (PutIn w t u (some ⟨g, q, none⟩) ua c uc W4) := HI8.out.below hbC
              have HB84 : Hid (TBox W4 B8 xr.1 a8 (lenF xr.2) c8) := HB8.out.below hbC
              have hP0 : w.cell? ⟨pb, po, none⟩ = some (.int .i64 n) := by
                obtain ⟨b, off, e, hc⟩ := HP.out.cells 0 (by simp)
                cases e
                exact hc
              have p4 := below_cell HI4.out.low _ _ hP0
              obtain ⟨y4, a5, c5, l5, kd⟩ := hkids4.kids.kid (k := n) (by omega)
              have k0 := kd.name; have k1 := kd.sym; have k2 := kd.list
              rw [Nat.zero_add] at k0 k1 k2
              have hcz := cell_size hcur4 k2
              have f0 := row_frozen (i := n * 3) hcur4
              have f1 := row_frozen (i := n * 3 + 1) hcur4
              have f2 := row_frozen (i := n * 3 + 2) hcur4
              have v0 := HB84.out.c0; have v1 := HB84.out.c1; have v2 := HB84.out.c2
              have s2 := HB10.out.c2
              have hg40 : w.heap.size + 1 + 1 + 1 ≤ g4 := by omega
              have hwc := hb4.size
              obtain ⟨W5, hW5⟩ : ∃ W5, ((W4.setCell ⟨g4, n * 3, none⟩ (.string xr.1.1)).setCell ⟨g4, n * 3 + 1, none⟩ (.int .i64 xr.1.2)).setCell ⟨g4, n * 3 + 2, none⟩ (.slice a8 (lenF xr.2) c8) = W5 := ⟨_, rfl⟩
              have hlow5 : Below w.heap.size w W5 := by rw [← hW5]; exact sets_low HI4.out.low (by omega) _ _ _
              have hlowC : Below wc.heap.size wc W5 := by rw [← hW5]; exact sets_low hbC hg4 _ _ _
              have hr5 : XBox W5 (w.heap.size + 1 + 1) (⟨#[]⟩, 0) (.slice none 0 0) := by rw [← hW5]; exact (sets_elsewhere (by omega)).trans HI4.out.r
              have hB5 : TBox W5 w4.heap.size t.1 (some ⟨g4, 0, none⟩) (lenF t.2) c4 := by rw [← hW5]; exact (sets_elsewhere (by omega)).trans HB10.out
              obtain ⟨cur5, hcur5⟩ : ∃ cur5, W5.heap[g4]? = some (Obj.cells cur5 26 (0, 0)) := ⟨_, by rw [← hW5]; exact block_set (block_set (block_set hcur4 _) _) _⟩
              obtain ⟨z0, z1, z2⟩ := sets_cells (a := .string xr.1.1) (b := .int .i64 xr.1.2) (c := .slice a8 (lenF xr.2) c8) hcur4 (n := n * 3) (by omega)
              have hrep : OwnKids false (fun q => w.heap.size + 1 + 1 + 1 ≤ q) W5 (setF n t.2 xr) g4 0 := by
                have hw0 := HI8.out.low.size
                refine OwnKids.replace (W := W4) (W' := W5) (a' := a8) (c' := c8) (P := fun q => wc.heap.size ≤ q ∧ q ≠ g4) (fun k hk => by omega) (fun k hk _ => by rw [← hW5]; exact sets_elsewhere hk.2) ((HT8.out.below hlowC).mono (fun q _ hq => by have := HI3.out.low.size; omega)) n hkids4 (by omega) (fun j v _ hj hv => by rw [← hW5]; exact sets_outside (by omega) hv) ?_
                rw [Nat.zero_add, ← hW5]
                exact ⟨z0, z1, z2⟩
              have HO5 : Hid (OwnTm false (fun q => w.heap.size + 1 + 1 + 1 ≤ q) W5 t.1 (some ⟨g4, 0, none⟩) c4 (setF n t.2 xr)) := ⟨by rw [len_set]; exact hR4.sizes, .inr ⟨g4, _, rfl, by omega, hcur5, (fun e => by cases e), hrep⟩⟩
              have HR5 : Hid (XBox W5 (w.heap.size + 1 + 1) (⟨#[]⟩, 0) (.slice none 0 0)) := hr5
              have HB5 : Hid (TBox W5 w4.heap.size t.1 (some ⟨g4, 0, none⟩) (lenF t.2) c4) := hB5
              have HL5 : Hid (Below w.heap.size w W5) := hlow5
              have HW5 : Hid (((W4.setCell ⟨g4, n * 3, none⟩ (.string xr.1.1)).setCell ⟨g4, n * 3 + 1, none⟩ (.int .i64 xr.1.2)).setCell ⟨g4, n * 3 + 2, none⟩ (.slice a8 (lenF xr.2) c8) = W5) := hW5
              clear hkids4 hkids hcur hcur4 hR4 hb4 hbW hbC hlow5 hlowC hr5 hB5 hcur5 z0 z1 z2 hrep hW5 kd hP0 x0 x1 x2
              go_wp2_with (rw [hW4])
              clear hW4
              go_region
              all_goals
                have y0 : W5.drew.cell? ⟨w4.heap.size, 0, none⟩ = _ := HB5.out.c0
                have y1 : W5.drew.cell? ⟨w4.heap.size, 1, none⟩ = _ := HB5.out.c1
                have y2 : W5.drew.cell? ⟨w4.heap.size, 2, none⟩ = _ := HB5.out.c2
                have r0 : W5.drew.cell? ⟨w.heap.size + 1 + 1, 0, none⟩ = _ := HR5.out.c0
                have r1 : W5.drew.cell? ⟨w.heap.size + 1 + 1, 1, none⟩ = _ := HR5.out.c1
                have r2 : W5.drew.cell? ⟨w.heap.size + 1 + 1, 2, none⟩ = _ := HR5.out.c2
                have g0 : W5.drew.frozen? ⟨w.heap.size + 1 + 1, 0, none⟩ = _ := HR5.out.f (k := 0)
                have g1 : W5.drew.frozen? ⟨w.heap.size + 1 + 1, 1, none⟩ = _ := HR5.out.f (k := 1)
                have g2 : W5.drew.frozen? ⟨w.heap.size + 1 + 1, 2, none⟩ = _ := HR5.out.f (k := 2)
                rw [HW5.out]
                obtain ⟨W6, hW6⟩ : ∃ W6, W5.drew = W6 := ⟨_, rfl⟩
                have HO6 : Hid (OwnTm false (fun q => w.heap.size + 1 + 1 + 1 ≤ q) W6 t.1 (some ⟨g4, 0, none⟩) c4 (setF n t.2 xr)) := by show OwnTm _ _ _ _ _ _ _; rw [← hW6]; exact HO5.out.below ((Below.refl _ _).drew)
                have HR6 : Hid (XBox W6 (w.heap.size + 1 + 1) (⟨#[]⟩, 0) (.slice none 0 0)) := by show XBox _ _ _ _; rw [← hW6]; exact HR5.out
                have HL6 : Hid (Below w.heap.size w W6) := by show Below _ _ _; rw [← hW6]; exact HL5.out.drew
                rw [hW6] at y0 y1 y2 r0 r1 r2 g0 g1 g2 ⊢
                clear hW6
                go_wp2
                refine ret_pair rfl rfl (HR6.out.all (x := t.1) _) rfl ?_
                rw [HN.out]
                refine ⟨some ⟨g4, 0, none⟩, c4, (by rw [show ansV (some (t.1, setF n t.2 xr)) (some ⟨g4, 0, none⟩) c4 = .tuple #[.agg #[.string t.1.1, .int .i64 t.1.2, .slice (some ⟨g4, 0, none⟩) (lenF t.2) c4], .int .i64 0] by simp only [ansV, ansT, ansE, Option.getD_some, len_set]]; rfl), ?_, sets_below HL6.out (by omega) _ _ _⟩
                exact (HO6.out.keep (fun q hq _ => sets_far (by omega) _ _ _)).mono (fun q _ hq => by omega)
end Go.Proofs.Ytokbgbbkopmngaa
/- The document's node and Do. -/
namespace Go.Proofs.Ytokbgbbkopmngaa
open Go.RowKit Go.Deep

theorem dnode_any (S : Option Addr) (n cap : Nat) (L : List Sym) (t : Tn) (a : Option Addr) (c : Nat) (p : Sp) (pa : Option Addr) (pn pc : Nat) (w : World)
    (hS : SigAt w S n L) (hT : TmAt w t.1 a c t.2) (hn : nodesF t.2 ≤ 1048576) (hG : gathN (sgOf L) t = true → 2 ≤ lenF t.2) :
    Calls Try.prog 33 #[.slice S n cap, .agg #[.string t.1.1, .int .i64 t.1.2, .slice a (lenF t.2) c], stepV p pa pn pc] w (NodeEnd w (stepN (sgOf L) t p)) := by
  by_cases h1 : p.kind = 1
  · exact dnode_flat S n cap L t a c p pa pn pc w hS hT hn hG h1
  by_cases h2 : p.kind = 2
  · exact dnode_group S n cap L t a c p pa pn pc w hS hT hn hG h2
  by_cases h3 : p.kind = 3
  · exact dnode_swap S n cap L t a c p pa pn pc w hS hT hn hG h3
  by_cases h4 : p.kind = 4
  · exact dnode_drop S n cap L t a c p pa pn pc w hS hT hn hG h4
  by_cases h5 : p.kind = 5
  · exact dnode_grow S n cap L t a c p pa pn pc w hS hT hn hG unit_joins h5
  exact dnode_other S n cap L t a c p pa pn pc w hS hT hn hG ⟨h1, h2, h3, h4, h5⟩
theorem right_gath {L : List Sym} {t x : Tn} {ps : List Int} (h : rightB L t = true) (hs : subT ps t = some x) : gathN (sgOf L) x = true → 2 ≤ lenF x.2 := fun hg => (node_two (sub_right ps (right_facts h).2 hs) hg).1
theorem sub_few : ∀ (ps : List Int) (t x : Tn), subT ps t = some x → nodesF x.2 ≤ nodesF t.2
  | [], t, x, h => by simp only [subT, Option.some.injEq] at h; subst h; exact Nat.le_refl _
  | i :: ps, t, x, h => by
    simp only [subT] at h
    cases hk : kidT i t.2 with
    | none => rw [hk] at h; cases h
    | some k =>
      rw [hk] at h
      have h1 := sub_few ps k x h
      have h2 := nodes_get (kidT_get hk).2
      omega
/-- What the document's Do answers. -/
def RDoEnd (w : World) (r : Option (Tn × Sp)) (e : Ending) (w' : World) : Prop := ∃ a c, e = .returned (.tuple #[.agg (tmC (ansN r) a c), .int .i64 (ansC r)]) ∧ OwnTm false (fun q => w.heap.size ≤ q) w' (ansN r).1 a c (ansN r).2 ∧ Below w.heap.size w w'
theorem zero_own {N : Nat} {w : World} : OwnTm false (fun q => N ≤ q) w (⟨#[]⟩, 0) none 0 .nil := ⟨⟨by show (0 : Nat) ≤ _; exact Nat.zero_le _, Nat.le_refl _, Nat.zero_le _, Nat.zero_le _⟩, .inl ⟨rfl, rfl⟩⟩
set_option maxRecDepth 100000 in
set_option maxHeartbeats 4000000 in
theorem rdo_any (S : Option Addr) (n cap : Nat) (L : List Sym) (t : Tn) (a : Option Addr) (c : Nat) (p : Sp) (ps : List Int) (pa : Option Addr) (pn pc : Nat) (w : World)
    (hS : SigAt w S n L) (hT : TmAt w t.1 a c t.2) (hn : nodesF t.2 ≤ 1048576) (hr : rightB L t = true) (hI : IntsAt w pa pn ps) (hpn : pn ≤ 1048576) (hpc : pn ≤ pc) (hpm : pc ≤ maxLen) :
    Calls Try.prog 14 #[.slice S n cap, .agg #[.string t.1.1, .int .i64 t.1.2, .slice a (lenF t.2) c], stepV p pa pn pc] w (RDoEnd w (stepT (sgOf L) t ps p)) := by
  obtain ⟨kd, at_, many, sym⟩ := p
  obtain ⟨W0, hW0⟩ : ∃ W0, ((w.alloc (.cells #[.string t.1.1, .int .i64 t.1.2, .slice a (lenF t.2) c] 26)).alloc (.cells #[.int .i64 kd, .slice pa pn pc, .int .i64 at_, .int .i64 many, .int .i64 sym] 39)).alloc (.cells #[.string ⟨#[]⟩, .int .i64 0, .slice none 0 0] 26) = W0 := ⟨_, rfl⟩
  have hb0 : Below w.heap.size w W0 := by rw [← hW0]; exact ((alloc_below0 w _).alloc (by simp) _).alloc (by simp; omega) _
  have B0 : Box W0 w.heap.size 26 (tmC t a c) := by rw [← hW0]; exact ((Box.new w 26 _).over _).over _
  have B1 : Box W0 (w.heap.size + 1) 39 (stepC ⟨kd, at_, many, sym⟩ pa pn pc) := by rw [← hW0]; exact (box_new (by rw [World.size_alloc]) 39 _).over _
  have B2 : Box W0 (w.heap.size + 2) 26 (tmC ((⟨#[]⟩, 0), .nil) none 0) := by rw [← hW0]; exact box_new (by rw [World.size_alloc, World.size_alloc]) 26 _
  have hsz : W0.heap.size = w.heap.size + 3 := by rw [← hW0]; simp
  have hst0 : NSt0 w t a c ⟨kd, at_, many, sym⟩ pa pn pc W0 := ⟨hb0, B0, B1, B2, by omega⟩
  have HAt := hid (rat_any ps t a c pa pn pc W0 (hT.below hb0) (hI.below hb0) (by omega))
  have d0 := B0.v (k := 0) rfl; have d1 := B0.v (k := 1) rfl; have d2 := B0.v (k := 2) rfl; have x1 := B1.v (k := 1) rfl
  have HST0 := hid hst0; have HS := hid hS; have HT := hid hT; have HN := hid hn; have HR := hid hr; have HI := hid hI; have HPC := hid hpc; have HPM := hid hpm
  clear hb0 B0 B1 B2 hsz hst0 hS hT hn hr hI hpc hpm
  go_enter Try.func14, Try.ntmps14
  go_wp2_with fail
  clear hW0
  refine HAt.out.mono ?_
  rintro e w3 ⟨a', c', he, hT3, hb3⟩
  unfold ansV at he
  obtain ⟨X, hX⟩ : ∃ X, ansT (subT ps t) = X := ⟨_, rfl⟩
  obtain ⟨E, hE⟩ : ∃ E, ansE (subT ps t) = E := ⟨_, rfl⟩
  rw [hX, hE] at he
  rw [hX] at hT3
  subst he
  obtain ⟨V, hV⟩ : ∃ V, w3.alloc (.cells #[.string X.1.1, .int .i64 X.1.2, .slice a' (lenF X.2) c'] 26) = V := ⟨_, rfl⟩
  have hbV3 : Below w3.heap.size w3 V := by rw [← hV]; exact alloc_below0 _ _
  have hBX : Box V w3.heap.size 26 (tmC X a' c') := by rw [← hV]; exact Box.new _ _ _
  have hst := (HST0.out.below hb3).below hbV3
  have HST := hid hst; have HTX := hid (hT3.below hbV3); have HXX := hid hX; have HEE := hid hE
  have z0 := hst.r.v (k := 0) rfl; have z1 := hst.r.v (k := 1) rfl; have z2 := hst.r.v (k := 2) rfl
  have f0 := hst.r.f 0; have f1 := hst.r.f 1; have f2 := hst.r.f 2
  have s0 := hst.x.v (k := 0) rfl; have s1 := hst.x.v (k := 1) rfl; have s2 := hst.x.v (k := 2) rfl; have s3 := hst.x.v (k := 3) rfl; have s4 := hst.x.v (k := 4) rfl
  have b0 := hBX.v (k := 0) rfl; have b1 := hBX.v (k := 1) rfl; have b2 := hBX.v (k := 2) rfl
  clear hT3 hb3 hX hE hbV3 hBX hst d0 d1 d2 x1 HST0 HAt
  cases hsub : subT ps t with
  | none =>
    have hE0 : E = 35 := by rw [← HEE.out, hsub]; rfl
    subst hE0
    have HNO : Hid (stepT (sgOf L) t ps ⟨kd, at_, many, sym⟩ = none) := stepT_none hsub
    clear hsub
    go_wp2_with fail
    refine ret_term rfl rfl (sets3_box HST.out.r _ _ _) rfl rfl ?_
    rw [HNO.out]
    exact ⟨none, 0, rfl, zero_own, HST.out.low.trans ((sets3_fr (B := w.heap.size + 2) _ _ _).below (fun k hk => by omega) HST.out.low.size)⟩
  | some x =>
    have hE0 : E = 0 := by rw [← HEE.out, hsub]; rfl
    have hX0 : X = x := by rw [← HXX.out, hsub]; rfl
    subst hE0 hX0
    have HSUB := hid hsub
    have HND := hid (dnode_any S n cap L X a' c' ⟨kd, at_, many, sym⟩ pa pn pc V (HS.out.below HST.out.low) HTX.out (Nat.le_trans (sub_few _ _ _ hsub) HN.out) (right_gath HR.out hsub))
    obtain ⟨r, hr⟩ : ∃ r, stepN (sgOf L) X ⟨kd, at_, many, sym⟩ = r := ⟨_, rfl⟩
    rw [hr] at HND
    have HRR := hid hr
    clear hsub hr z0 z1 z2 f0 f1 f2
    go_wp2_with fail
    refine HND.out.mono ?_
    rintro e w4 ⟨y, ya, yc, rfl, hy, hb4⟩
    obtain ⟨V4, hV4⟩ : ∃ V4, w4.alloc (.cells #[.string y.1.1, .int .i64 y.1.2, .slice ya (lenF y.2) yc] 26) = V4 := ⟨_, rfl⟩
    have hb44 : Below w4.heap.size w4 V4 := by rw [← hV4]; exact alloc_below0 _ _
    have hBY : Box V4 w4.heap.size 26 (tmC y ya yc) := by rw [← hV4]; exact Box.new _ _ _
    have hst4 := (HST.out.below hb4).below hb44
    have HST4 := hid hst4; have HY := hid hy; have HB44 := hid hb44
    have z0 := hst4.r.v (k := 0) rfl; have z1 := hst4.r.v (k := 1) rfl; have z2 := hst4.r.v (k := 2) rfl
    have f0 := hst4.r.f 0; have f1 := hst4.r.f 1; have f2 := hst4.r.f 2
    have n0 := hst4.n.v (k := 0) rfl; have n1 := hst4.n.v (k := 1) rfl; have n2 := hst4.n.v (k := 2) rfl
    have v1 := hst4.x.v (k := 1) rfl
    have y0 := hBY.v (k := 0) rfl; have y1 := hBY.v (k := 1) rfl; have y2 := hBY.v (k := 2) rfl
    clear hb44 hBY hst4 hb4 s0 s1 s2 s3 s4 b0 b1 b2 HST hy
    cases hrr : r with
    | none =>
      have HNO : Hid (stepT (sgOf L) t ps ⟨kd, at_, many, sym⟩ = none) := by show _ = _; unfold stepT; rw [HSUB.out]; simp only; rw [HRR.out, hrr]
      clear hrr
      go_wp2_with fail
      refine ret_term rfl rfl (sets3_box HST4.out.r _ _ _) rfl rfl ?_
      rw [HNO.out]
      exact ⟨none, 0, rfl, zero_own, HST4.out.low.trans ((sets3_fr (B := w.heap.size + 2) _ _ _).below (fun k hk => by omega) HST4.out.low.size)⟩
    | some s =>
      obtain ⟨hy1, hyO⟩ := HY.out s hrr
      obtain ⟨yy, hyy⟩ := put_some s.1 ps t X HSUB.out
      have HYS : Hid (stepT (sgOf L) t ps ⟨kd, at_, many, sym⟩ = some (yy, s.2)) := by show _ = _; unfold stepT; rw [HSUB.out]; simp only; rw [HRR.out, hrr]; simp only; rw [hyy]; rfl
      have hput := rput_all ps t y a ya c yc pa pn pc V4 (HT.out.below HST4.out.low) (hyO.tm.below HB44.out) (HI.out.below HST4.out.low) HPC.out HPM.out
      have HPUT := hid hput
      have HYY : Hid (putT y ps t = some yy) := by show _ = _; rw [hy1]; exact hyy
      clear hrr hy1 hyO hyy hput
      go_wp2_with fail
      refine HPUT.out.mono ?_
      rintro e w8 ⟨a8, c8, he8, hO8, hb8⟩
      have he8' : e = .returned (.tuple #[.agg #[.string yy.1.1, .int .i64 yy.1.2, .slice a8 (lenF yy.2) c8], .int .i64 0]) := by rw [he8, HYY.out]; rfl
      subst he8'
      have hO8' : OwnTm false (fun q => V4.heap.size ≤ q) w8 yy.1 a8 c8 yy.2 := by have := hO8; rw [HYY.out] at this; exact this
      obtain ⟨V8, hV8⟩ : ∃ V8, w8.alloc (.cells #[.string yy.1.1, .int .i64 yy.1.2, .slice a8 (lenF yy.2) c8] 26) = V8 := ⟨_, rfl⟩
      have hb88 : Below w8.heap.size w8 V8 := by rw [← hV8]; exact alloc_below0 _ _
      have hB8 : Box V8 w8.heap.size 26 (tmC yy a8 c8) := by rw [← hV8]; exact Box.new _ _ _
      have hst8 := (HST4.out.below hb8).below hb88
      have HST8 := hid hst8; have HO8 := hid (hO8'.below hb88)
      clear z0 z1 z2 f0 f1 f2 n0 n1 n2 v1 y0 y1 y2
      have z0 := hst8.r.v (k := 0) rfl; have z1 := hst8.r.v (k := 1) rfl; have z2 := hst8.r.v (k := 2) rfl
      have f0 := hst8.r.f 0; have f1 := hst8.r.f 1; have f2 := hst8.r.f 2
      have o0 := hB8.v (k := 0) rfl; have o1 := hB8.v (k := 1) rfl; have o2 := hB8.v (k := 2) rfl
      clear he8 hO8 hO8' hb8 hb88 hB8 hst8
      go_wp2_with fail
      refine ret_term rfl rfl (sets3_box HST8.out.r _ _ _) rfl rfl ?_
      rw [HYS.out]
      have hs4 := HST4.out.sz
      exact ⟨a8, c8, rfl, (HO8.out.keep (fun q hq hl => (sets3_fr (B := w.heap.size + 2) _ _ _).same q hl (by omega))).mono (fun q _ hq => by omega), HST8.out.low.trans ((sets3_fr (B := w.heap.size + 2) _ _ _).below (fun k hk => by omega) HST8.out.low.size)⟩
end Go.Proofs.Ytokbgbbkopmngaa
/- The document's Play. -/
namespace Go.Proofs.Ytokbgbbkopmngaa
open Go.RowKit Go.Deep

/-- What the document's Play answers. -/
def RPlayEnd (w : World) (r : Option Tn × Nat) (e : Ending) (w' : World) : Prop := ∃ a c, e = .returned (.tuple #[.agg (tmC (plT r) a c), .int .i64 (plC r), .int .i64 r.2]) ∧ TmAt w' (plT r).1 a c (plT r).2 ∧ Below w.heap.size w w'
structure RySt (w : World) (L : List Sym) (t : Tn) (Ls : List St) (Bx j : Nat) (T : Tn) (a : Option Addr) (c : Nat) (W : World) : Prop where
  low : Below w.heap.size w W
  lo : w.heap.size + 2 ≤ Bx
  box : Box W Bx 26 (tmC T a c)
  own : OwnTm false (fun q => w.heap.size + 2 ≤ q) W T.1 a c T.2
  res : Box W (w.heap.size + 1) 26 (tmC ((⟨#[]⟩, 0), .nil) none 0)
  few : nodesF T.2 ≤ nodesF t.2 + 2 * j
  right : rightB L T = true
  cln : Cln T.2
  play : playN (sgOf L) T (Ls.drop j) j = playN (sgOf L) t Ls 0
theorem RySt.below {w : World} {L : List Sym} {t : Tn} {Ls : List St} {Bx j : Nat} {T : Tn} {a : Option Addr} {c : Nat} {W W' : World} (h : RySt w L t Ls Bx j T a c W) (hb : Below W.heap.size W W') : RySt w L t Ls Bx j T a c W' :=
  ⟨h.low.trans (hb.mono h.low.size), h.lo, h.box.below hb, h.own.below hb, h.res.below hb, h.few, h.right, h.cln, h.play⟩
set_option maxRecDepth 100000 in
set_option maxHeartbeats 4000000 in
theorem rplay_any (S : Option Addr) (n cap : Nat) (L : List Sym) (t : Tn) (a : Option Addr) (c : Nat) (la : Option Addr) (ln lc : Nat) (Ls : List St) (w : World)
    (hS : SigAt w S n L) (hT : TmAt w t.1 a c t.2) (hn : nodesF t.2 + 2 * ln ≤ 1048576) (hr : rightB L t = true) (hc : Cln t.2) (hL : StpsAt w la ln Ls) :
    Calls Try.prog 20 #[.slice S n cap, .agg (tmC t a c), .slice la ln lc] w (RPlayEnd w (playN (sgOf L) t Ls 0)) := by
  obtain ⟨r, hrr⟩ : ∃ r, playN (sgOf L) t Ls 0 = r := ⟨_, rfl⟩
  rw [hrr]
  obtain rfl := hL.len
  obtain ⟨W0, hW0⟩ : ∃ W0, (w.alloc (.cells #[.string t.1.1, .int .i64 t.1.2, .slice a (lenF t.2) c] 26)).alloc (.cells #[.string ⟨#[]⟩, .int .i64 0, .slice none 0 0] 26) = W0 := ⟨_, rfl⟩
  have hb0 : Below w.heap.size w W0 := by rw [← hW0]; exact (alloc_below0 w _).alloc (by simp) _
  have hsz : W0.heap.size = w.heap.size + 2 := by rw [← hW0]; simp
  have B0 : Box W0 w.heap.size 26 (tmC t a c) := by rw [← hW0]; exact (Box.new w 26 _).over _
  have B2 : Box W0 (w.heap.size + 1) 26 (tmC ((⟨#[]⟩, 0), .nil) none 0) := by rw [← hW0]; exact box_new (by rw [World.size_alloc]) 26 _
  have HCl := hid (rclone_any t.1 t.2 a c W0 (hT.below hb0))
  have d0 := B0.v (k := 0) rfl; have d1 := B0.v (k := 1) rfl; have d2 := B0.v (k := 2) rfl
  have HB0 := hid hb0; have HSZ := hid hsz; have HX2 := hid B2; have HS := hid hS; have HL := hid hL
  have HRR := hid hrr; have HN := hid hn; have HR := hid hr; have HC := hid hc
  clear hb0 hsz B0 B2 hS hT hL hrr hn hr hc
  go_enter Try.func20, Try.ntmps20
  go_wp2_with fail
  clear hW0
  refine HCl.out.mono ?_
  rintro e w1 ⟨a', c', rfl, hR1, hb1⟩
  obtain ⟨V, hV⟩ : ∃ V, w1.alloc (.cells #[.string t.1.1, .int .i64 t.1.2, .slice a' (lenF t.2) c'] 26) = V := ⟨_, rfl⟩
  have hbV : Below w1.heap.size w1 V := by rw [← hV]; exact alloc_below0 _ _
  have hst : RySt w L t Ls w1.heap.size 0 t a' c' V := by
    have h0 := HSZ.out
    have h1 := hb1.size
    have hl : Below w.heap.size w w1 := HB0.out.trans (hb1.mono HB0.out.size)
    exact ⟨hl.trans (hbV.mono hl.size), by omega, by rw [← hV]; exact Box.new _ _ _, (hR1.own.below hbV).mono (fun q _ hq => by omega), (HX2.out.below hb1).below hbV, by omega, HR.out, HC.out, by rw [List.drop_zero]⟩
  have HST := hid hst
  clear hst hR1 hb1 hbV d0 d1 d2 HCl
  go_wp2_with fail
  clear hV
  generalize w1.heap.size = Bx at HST ⊢
  go_loopw [10, 11, 12] (fun ix _ _ wr => ∃ (j : Nat) (T : Tn) (ta : Option Addr) (tc : Nat), j ≤ Ls.length ∧ ix = .int .i64 j ∧ RySt w L t Ls Bx j T ta tc wr) (fun ix _ _ _ => Ls.length - (intOf ix).toNat)
  case atStart => exact ⟨0, t, a', c', Nat.zero_le _, rfl, HST.out⟩
  case round =>
    obtain ⟨j, T, ta, tc, hj, rfl, hst⟩ := hrel
    have HST := hid hst
    have hlen := HL.out.few
    by_cases hlt : j < Ls.length
    · obtain ⟨sb, so, pa, pn, pc, rfl, hsa⟩ := HL.out.cells j hlt
      have hstr := hsa.below hst.low
      obtain ⟨sp, hsp⟩ : ∃ sp, Ls[j].sp = sp := ⟨_, rfl⟩
      obtain ⟨pth, hpth⟩ : ∃ pth, Ls[j].path = pth := ⟨_, rfl⟩
      have t0 := hstr.kind; have t1 := hstr.path; have t2 := hstr.at_; have t3 := hstr.many; have t4 := hstr.sym
      have hpI := hsa.ints
      rw [hsp] at t0 t2 t3 t4
      rw [hpth] at hpI
      have hpn := hsa.few; have hpf := hsa.fits; have hpm := hsa.cap
      have hj0 : (0 : Int) ≤ (j : Int) := by omega
      have hjn : (j : Int) < (Ls.length : Int) := by omega
      have x0 := hst.box.v (k := 0) rfl; have x1 := hst.box.v (k := 1) rfl; have x2 := hst.box.v (k := 2) rfl
      obtain ⟨r1, hr1⟩ : ∃ r1, stepT (sgOf L) T pth sp = r1 := ⟨_, rfl⟩
      obtain ⟨y, hy⟩ : ∃ y, ansN r1 = y := ⟨_, rfl⟩
      obtain ⟨ec, hec⟩ : ∃ ec, ansC r1 = ec := ⟨_, rfl⟩
      have HPI := hid hpI; have HPF := hid hpf; have HPM := hid hpm; have HPN := hid hpn
      have HD1 : Hid (∀ W, Below wr.heap.size wr W → Calls Try.prog 14 #[.slice S n cap, .agg #[.string T.1.1, .int .i64 T.1.2, .slice ta (lenF T.2) tc], stepV sp pa pn pc] W fun e w' => ∃ a' c', e = .returned (.tuple #[.agg #[.string y.1.1, .int .i64 y.1.2, .slice a' (lenF y.2) c'], .int .i64 ec]) ∧ OwnTm false (fun q => W.heap.size ≤ q) w' y.1 a' c' y.2 ∧ Below W.heap.size W w') := fun W hW => by
        have hbW : Below w.heap.size w W := HST.out.low.trans (hW.mono HST.out.low.size)
        have hfew := HST.out.few
        have hnn := HN.out
        have := rdo_any S n cap L T ta tc sp pth pa pn pc W (HS.out.below hbW) (HST.out.own.tm.below hW) (by omega) HST.out.right (HPI.out.below hbW) HPN.out HPF.out HPM.out
        rw [hr1] at this
        unfold RDoEnd tmC at this
        rw [hy, hec] at this
        exact this
      have HRE : Hid (stepT (sgOf L) T Ls[j].path Ls[j].sp = r1) := by show _ = _; rw [hsp, hpth]; exact hr1
      have HR1 := hid hr1; have HY := hid hy; have HEC := hid hec; have HLT := hid hlt
      clear hsa hstr hsp hpth hpI hr1 hy hec hst hpn hpf hpm
      go_wp2_with fail
      go_cut [11, 12] (fun x e w' => ∃ B a4 c4, x = .pointer (some ⟨B, 0, none⟩) ∧ e = .int .i64 ec ∧ Box w' B 26 #[.string y.1.1, .int .i64 y.1.2, .slice a4 (lenF y.2) c4] ∧ OwnTm false (fun q => wr.heap.size ≤ q) w' y.1 a4 c4 y.2 ∧ Below wr.heap.size wr w')
      case first =>
        go_region_held3 (fun w' => w'.cell? ⟨Bx, 0, none⟩ = some (.string T.1.1) ∧ w'.cell? ⟨Bx, 1, none⟩ = some (.int .i64 T.1.2) ∧ w'.cell? ⟨Bx, 2, none⟩ = some (.slice ta (lenF T.2) tc) ∧ w'.cell? ⟨sb, so + j * 5, none⟩ = some (.int .i64 sp.kind) ∧ w'.cell? ⟨sb, so + j * 5 + 1, none⟩ = some (.slice pa pn pc) ∧ w'.cell? ⟨sb, so + j * 5 + 2, none⟩ = some (.int .i64 sp.at_) ∧ w'.cell? ⟨sb, so + j * 5 + 3, none⟩ = some (.int .i64 sp.many) ∧ w'.cell? ⟨sb, so + j * 5 + 4, none⟩ = some (.int .i64 sp.sym)) ((first | (go_split_ands; refine ⟨?_, ?_, ?_, ?_, ?_, ?_, ?_, ?_⟩ <;> ((with_reducible refine below_cell HB4.out _ _ ?_); assumption)) | (have hqq := HX4.out; clear hqq; go_split_ands; refine ⟨?_, ?_, ?_, ?_, ?_, ?_, ?_, ?_⟩ <;> (refine below_cell (sets_below HB4.out (Nat.le_refl _) _ _ _) _ _ ?_; assumption)) | (go_split_ands; refine ⟨?_, ?_, ?_, ?_, ?_, ?_, ?_, ?_⟩ <;> (refine below_cell (HB4.out.alloc HB4.out.size _) _ _ ?_; assumption)) | (go_split_ands; refine ⟨?_, ?_, ?_, ?_, ?_, ?_, ?_, ?_⟩ <;> (refine below_cell ((Below.refl _ wr).alloc (Nat.le_refl _) _) _ _ ?_; assumption)) | go_keep | fail)) ((first | (go_at_call 14; (with_reducible refine Calls.mono (HD1.out (World.drew wr) (Below.refl _ wr).drew) ?_); rintro e w4 ⟨a4, c4, rfl, hF4, hb4⟩; have HF4 : Hid (OwnTm false (fun q => wr.heap.size ≤ q) w4 y.1 a4 c4 y.2) := hF4; have HB4 : Hid (Below wr.heap.size wr w4) := ((Below.refl _ wr).drew).trans hb4; clear hF4 hb4) | (go_at_call 14; refine (HD1.out (World.drew (World.alloc wr (.cells #[.string ⟨#[]⟩, .int .i64 0, .slice none 0 0] 26))) ((Below.refl _ wr).alloc (Nat.le_refl _) _).drew).mono ?_; rintro e w4 ⟨a4, c4, rfl, hF4, hb4⟩; have HF4 : Hid (OwnTm false (fun q => wr.heap.size < q) w4 y.1 a4 c4 y.2) := hF4.mono (fun q _ hq => by have hq : (World.drew (World.alloc wr (.cells #[.string ⟨#[]⟩, .int .i64 0, .slice none 0 0] 26))).heap.size ≤ q := hq; rw [show (World.drew (World.alloc wr (.cells #[.string ⟨#[]⟩, .int .i64 0, .slice none 0 0] 26))).heap.size = wr.heap.size + 1 from World.size_alloc _ _] at hq; omega); have HB4 : Hid (Below wr.heap.size wr w4) := (((Below.refl _ wr).alloc (Nat.le_refl _) _).drew).trans (hb4.mono (by show _ ≤ (wr.alloc _).heap.size; rw [World.size_alloc]; omega)); have HX4 : Hid (Box w4 wr.heap.size 26 #[.string ⟨#[]⟩, .int .i64 0, .slice none 0 0]) := Box.below (W := World.drew (World.alloc wr (.cells #[.string ⟨#[]⟩, .int .i64 0, .slice none 0 0] 26))) (Box.new wr 26 _) hb4; have z0 := HX4.out.v (k := 0) rfl; have z1 := HX4.out.v (k := 1) rfl; have z2 := HX4.out.v (k := 2) rfl; have zf0 := HX4.out.f 0; have zf1 := HX4.out.f 1; have zf2 := HX4.out.f 2; clear hF4 hb4) | fail))
        all_goals (go_wp2_with fail; go_meet)
        all_goals first
          | exact ⟨wr.heap.size, a4, c4, rfl, rfl, sets3_box HX4.out _ _ _, (HF4.out.keep (fun q hq _ => sets_far (by omega) _ _ _)).mono (fun q _ hq => by omega), sets_below HB4.out (Nat.le_refl _) _ _ _⟩
          | exact ⟨w4.heap.size, a4, c4, rfl, rfl, Box.new _ _ _, HF4.out.below (alloc_below0 _ _), HB4.out.alloc HB4.out.size _⟩
      case rest =>
        obtain ⟨B1, a4, c4, rfl, rfl, hX1, hF1, hW1⟩ := hcut
        have hst2 := HST.out.below hW1
        have HST2 := hid hst2; have HF1 := hid hF1; have HW1 := hid hW1
        have HBB : Hid (Bx < wr.heap.size) := HST.out.box.lt
        clear x0 x1 x2 t0 t1 t2 t3 t4 hF1 hW1
        cases hrr : r1 with
        | none =>
          have e1 : ec = 81 := by rw [← HEC.out, hrr]; rfl
          subst e1
          have HRP : Hid (r = (none, j)) := by show _ = _; rw [← HRR.out, ← HST.out.play]; exact play_stop HLT.out (HRE.out.trans hrr)
          have z0 := hst2.res.v (k := 0) rfl; have z1 := hst2.res.v (k := 1) rfl; have z2 := hst2.res.v (k := 2) rfl
          have f0 := hst2.res.f 0; have f1 := hst2.res.f 1; have f2 := hst2.res.f 2
          clear hrr hX1 hst2
          go_wp2_with fail
          refine ret_term2 rfl rfl (sets3_box HST2.out.res _ _ _) rfl rfl ?_
          rw [HRP.out]
          exact ⟨none, 0, rfl, zero_own (N := 0).tm, HST2.out.low.trans ((sets3_fr (B := w.heap.size + 1) _ _ _).below (fun k hk => by omega) HST2.out.low.size)⟩
        | some s =>
          have e1 : ec = 0 := by rw [← HEC.out, hrr]; rfl
          subst e1
          have hys : y = s.1 := by rw [← HY.out, hrr]; rfl
          subst hys
          have hstp := HRE.out.trans hrr
          obtain ⟨g1, g2, _, _⟩ := step_sound (t' := s.1) (q := s.2) HST.out.right HST.out.cln hstp
          have hnod := stepT_nodes (t' := s.1) (q := s.2) hstp
          have hplay := (play_step HLT.out hstp).symm.trans HST.out.play
          have G1 := hid g1; have G2 := hid g2; have HND := hid hnod; have HPY := hid hplay
          have b0 := hX1.v (k := 0) rfl; have b1 := hX1.v (k := 1) rfl; have b2 := hX1.v (k := 2) rfl
          have x0 := hst2.box.v (k := 0) rfl; have x1 := hst2.box.v (k := 1) rfl; have x2 := hst2.box.v (k := 2) rfl
          have f0 := hst2.box.f 0; have f1 := hst2.box.f 1; have f2 := hst2.box.f 2
          clear hrr hX1 hst2 g1 g2 hnod hplay hstp
          go_wp2_with fail
          go_roundw
          case rel =>
            have hlo := HST.out.lo
            have hBB := HBB.out
            have hls := HST.out.low.size
            refine ⟨j + 1, s.1, a4, c4, by have := HLT.out; omega, by go_num, ?_⟩
            refine ⟨HST2.out.low.trans ((sets3_fr (B := Bx) _ _ _).below (fun k hk => by omega) HST2.out.low.size), hlo, sets3_box HST2.out.box _ _ _, (HF1.out.keep (fun q hq hl => (sets3_fr (B := Bx) _ _ _).same q hl (by omega))).mono (fun q _ hq => by omega), HST2.out.res.fr (sets3_fr (B := Bx) _ _ _) (by omega), by have h1 := HND.out; have h2 := HST.out.few; unfold sizeT at h1; omega, G1.out, G2.out, HPY.out⟩
          case measure => simp [intOf]; omega
    · have hjn : ¬ (j : Int) < (Ls.length : Int) := by omega
      have x0 := hst.box.v (k := 0) rfl; have x1 := hst.box.v (k := 1) rfl; have x2 := hst.box.v (k := 2) rfl
      have z0 := hst.res.v (k := 0) rfl; have z1 := hst.res.v (k := 1) rfl; have z2 := hst.res.v (k := 2) rfl
      have f0 := hst.res.f 0; have f1 := hst.res.f 1; have f2 := hst.res.f 2
      have hrr : r = (some T, 0) := by
        rw [← HRR.out, ← hst.play, List.drop_eq_nil_of_le (by omega)]; rfl
      subst hrr
      clear hst
      go_wp2_with fail
      refine ret_term2 rfl rfl (sets3_box HST.out.res _ _ _) rfl rfl ?_
      exact ⟨ta, tc, rfl, (HST.out.own.keep (fun q hq hl => (sets3_fr (B := w.heap.size + 1) _ _ _).same q hl (by omega))).tm, HST.out.low.trans ((sets3_fr (B := w.heap.size + 1) _ _ _).below (fun k hk => by omega) HST.out.low.size)⟩
end Go.Proofs.Ytokbgbbkopmngaa
/- The document's Over. -/
namespace Go.Proofs.Ytokbgbbkopmngaa
open Go.RowKit Go.Deep Go.Shelf

def left0F : Fo → Int → Int
  | .nil, r => r
  | .node _ _ _ l s, r => if r < 0 then r else left0F s (left0F l (r - 1))
theorem left0F_bd : ∀ (F : Fo) (r : Int), -1 ≤ r → -1 ≤ left0F F r ∧ left0F F r ≤ r
  | .nil, r, h => ⟨h, Int.le_refl _⟩
  | .node _ _ x l s, r, h => by
    unfold left0F
    split
    · omega
    · have h1 := left0F_bd l (r - 1) (by omega)
      have h2 := left0F_bd s (left0F l (r - 1)) h1.1
      omega
theorem left0F_neg (F : Fo) (r : Int) (h : r < 0) : left0F F r = r := by
  cases F with
  | nil => rfl
  | node => unfold left0F; rw [if_pos h]
theorem left0F_eq : ∀ (F : Fo) (r : Int), 0 ≤ left0F F r → left0F F r = r - nodesF F
  | .nil, r, _ => by simp [left0F, nodesF]
  | .node _ _ x l s, r, h => by
    unfold left0F at h ⊢
    by_cases hr : r < 0
    · rw [if_pos hr] at h; omega
    · rw [if_neg hr] at h ⊢
      have h1 : 0 ≤ left0F l (r - 1) := by
        rcases Int.lt_or_le (left0F l (r - 1)) 0 with h2 | h2
        · rw [left0F_neg s _ h2] at h; omega
        · exact h2
      have e1 := left0F_eq l (r - 1) h1
      have e2 := left0F_eq s _ h
      rw [e2, e1]
      simp only [nodesF]
      omega
theorem left0F_nn : ∀ (F : Fo) (r : Int), (nodesF F : Int) ≤ r → 0 ≤ left0F F r
  | .nil, r, h => by simpa [left0F, nodesF] using h
  | .node _ _ x l s, r, h => by
    simp only [nodesF] at h
    unfold left0F
    rw [if_neg (by omega)]
    have h1 := left0F_nn l (r - 1) (by omega)
    have e1 := left0F_eq l (r - 1) h1
    exact left0F_nn s _ (by omega)
def OverOk (k : Nat) : Prop := ∀ (x : ByteArray × Int) (l : Fo) (a : Option Addr) (c : Nat) (room : Int) (w : World), nodesF l ≤ k → TmAt w x a c l → 0 ≤ room → room ≤ 1048576 →
  Calls Try.prog 36 #[.agg #[.string x.1, .int .i64 x.2, .slice a (lenF l) c], .int .i64 room] w fun e w' => e = .returned (.int .i64 (left0F l (room - 1))) ∧ Below w.heap.size w w'
set_option maxRecDepth 100000 in
set_option maxHeartbeats 2000000 in
theorem over_all : ∀ k, OverOk k := by
  intro k
  induction k using Nat.strongRecOn with
  | _ k ih =>
    intro x l a c room w hk hT hr0 hr4
    have HT := hid hT
    have IH : Hid (∀ j, j < k → OverOk j) := ih
    have O0 := hid (One.new w x a (lenF l) c)
    have hn0 := len_nodes l
    have hln : lenF l ≤ 2932031007402 := by have := hT.sizes.few; omega
    clear hT ih
    go_enter Try.func36, Try.ntmps36
    go_wp2_with fail
    generalize w.alloc (.cells #[.string x.1, .int .i64 x.2, .slice a (lenF l) c] 26) = V at O0 ⊢
    go_loopw [1, 5] (fun rv iv wr => ∃ (j : Nat) (r : Int), j ≤ lenF l ∧ rv = .int .i64 r ∧ iv = .int .i64 j ∧ -1 ≤ r ∧ r ≤ 1048576 ∧ One w x a (lenF l) c wr ∧ left0F (dropF j l) r = left0F l (room - 1)) (fun _ iv _ => lenF l - (intOf iv).toNat)
    case atStart => exact ⟨0, room - 1, Nat.zero_le _, rfl, rfl, by omega, by omega, O0.out, by rw [drop_zero]⟩
    case round =>
      obtain ⟨j, r, hj, rfl, rfl, hr1, hr2, hO, hm⟩ := hrel
      have HO := hid hO
      have t2 := hO.t.c2
      by_cases hlt : j < lenF l
      · obtain ⟨b1, o1, rfl, hk1⟩ := HT.out.args.get (by omega)
        obtain ⟨z, a1, c1, l1, kd⟩ := hk1.kid (k := j) hlt
        have kd' := kd.below hO.low
        obtain ⟨B1, O1', s1⟩ := kd.split
        rw [s1] at hm
        have p0 := kd'.name; have p1 := kd'.sym; have p2 := kd'.list
        by_cases hr : r < 0
        · rw [left0F_neg _ r hr] at hm
          clear kd kd' s1 hk1 hO
          go_wp2_with fail
          go_ret
          exact ⟨by rw [← hm] <;> rfl, HO.out.low⟩
        · have HC := hid (IH.out (nodesF l1) (by have := kd.less; omega) z l1 a1 c1 r wr (Nat.le_refl _) kd'.at_ (by omega) hr2)
          have hstep : left0F (dropF (j + 1) l) (left0F l1 (r - 1)) = left0F l (room - 1) := by
            rw [← hm]
            conv => rhs; unfold left0F
            rw [if_neg hr]
          have HS := hid hstep
          have hbd := left0F_bd l1 (r - 1) (by omega)
          clear kd kd' s1 hk1 hO hstep
          go_wp2_with fail
          refine HC.out.mono ?_
          rintro e w3 ⟨rfl, hb3⟩
          have HO4 := hid (HO.out.below hb3)
          clear hb3 p0 p1 p2 t2
          go_wp2_with fail
          go_roundw
          case rel => exact ⟨j + 1, left0F l1 (r - 1), by omega, rfl, by go_num, hbd.1, by omega, HO4.out, HS.out⟩
          case measure => simp [intOf]; omega
      · have e1 : j = lenF l := by omega
        rw [e1, drop_end] at hm
        have hm' : r = left0F l (room - 1) := hm
        go_wp2_with fail
        go_ret
        exact ⟨by rw [hm'] <;> rfl, HO.out.low⟩
/-- Over: are there more nodes than these? -/
theorem over_any (x : ByteArray × Int) (l : Fo) (a : Option Addr) (c : Nat) (most : Nat) (w : World) (hT : TmAt w x a c l) (hm : most ≤ 1048576) :
    Calls Try.prog 22 #[.agg #[.string x.1, .int .i64 x.2, .slice a (lenF l) c], .int .i64 most] w fun e w' => e = .returned (.bool (decide (most < nodesF l + 1))) ∧ Below w.heap.size w w' := by
  have O0 := hid (One.new w x a (lenF l) c)
  have b1 := alloc_below0 w (.cells #[.string x.1, .int .i64 x.2, .slice a (lenF l) c] 26)
  have HC := hid (over_all (nodesF l) x l a c most _ (Nat.le_refl _) (hT.below b1) (by omega) (by omega))
  have B1 := hid b1
  have t0 := O0.out.t.c0; have t1 := O0.out.t.c1; have t2 := O0.out.t.c2
  have hd : decide (left0F l ((most : Int) - 1) < 0) = decide (most < nodesF l + 1) := by
    by_cases h : 0 ≤ left0F l ((most : Int) - 1)
    · have := left0F_eq l _ h
      rw [decide_eq_false (by omega), decide_eq_false (by omega)]
    · rw [decide_eq_true (by omega), decide_eq_true]
      rcases Nat.lt_or_ge most (nodesF l + 1) with h1 | h1
      · exact h1
      · exact absurd (left0F_nn l ((most : Int) - 1) (by omega)) h
  have HD := hid hd
  clear hT b1 hd
  go_enter Try.func22, Try.ntmps22
  go_wp2_with fail
  refine HC.out.mono ?_
  rintro e w1 ⟨rfl, hb⟩
  have HL := hid (B1.out.trans (hb.mono B1.out.size))
  clear hb HC
  go_wp2_with fail
  go_ret
  exact ⟨by rw [← HD.out] <;> rfl, HL.out⟩
end Go.Proofs.Ytokbgbbkopmngaa
/- Down whole; the walk of DeriveDown. -/
namespace Go.Proofs.Ytokbgbbkopmngaa
open Go.RowKit Go.Deep

theorem DnEnd.play {S : Sg} {t : Tn} {ls : List Bs} (h : DnEnd S t ls) : playN S t (ls.map Bs.st) 0 = (some (canonT S t), 0) := by
  have := Runs.play (S := S) [] 0 h.runs
  rw [List.append_nil] at this
  exact this
theorem exF_cl : ∀ (F G : Fo), lenF F = lenF G → exF F G = true → clF F = clF G
  | .nil, .nil, _, _ => rfl
  | .nil, .node _ _ _ _ _, h, _ => by simp [lenF] at h
  | .node _ _ _ _ _, .nil, h, _ => by simp [lenF] at h
  | .node _ _ x l r, .node _ _ y m s, h, he => by
    simp only [exF, Bool.and_eq_true, beq_iff_eq] at he
    obtain ⟨⟨⟨⟨h1, h2⟩, h3⟩, h4⟩, h5⟩ := he
    simp only [lenF] at h
    have e1 : x.1 = y.1 := by rw [ByteArray.toList_eq, ByteArray.toList_eq] at h1; exact bytes_eq h1
    simp only [clF]
    rw [exF_cl l m h3 h4, exF_cl r s (by omega) h5, show x = y from Prod.ext e1 h2]
theorem exN_eq {x y : Tn} (hx : Cln x.2) (hy : Cln y.2) (h : exN x.1 y.1 x.2 y.2 = true) : x = y := by
  unfold exN at h
  simp only [Bool.and_eq_true, beq_iff_eq] at h
  obtain ⟨⟨⟨h1, h2⟩, h3⟩, h4⟩ := h
  have e1 : x.1.1 = y.1.1 := by rw [ByteArray.toList_eq, ByteArray.toList_eq] at h1; exact bytes_eq h1
  have e2 := exF_cl _ _ h3 h4
  rw [show clF x.2 = x.2 from hx, show clF y.2 = y.2 from hy] at e2
  exact Prod.ext (Prod.ext e1 h2) e2
/-- What Down answers. -/
def DownEnd (L : List Sym) (t : Tn) (w : World) (e : Ending) (w' : World) : Prop := ∃ a c ls, e = .returned (.slice a ls.length c) ∧ StpsAt w' a ls.length (ls.map Bs.st) ∧ ls.length ≤ c ∧ c ≤ maxLen ∧ DnEnd (sgOf L) t ls ∧ Below w.heap.size w w'
set_option maxRecDepth 100000 in
set_option maxHeartbeats 4000000 in
theorem down_any (S : Option Addr) (n cap : Nat) (L : List Sym) (t : Tn) (a : Option Addr) (c : Nat) (w : World)
    (hS : SigAt w S n L) (hT : TmAt w t.1 a c t.2) (hn : sizeT t ≤ 200) (hr : rightB L t = true) (hc : Cln t.2) :
    Calls Try.prog 23 #[.slice S n cap, .agg #[.string t.1.1, .int .i64 t.1.2, .slice a (lenF t.2) c]] w (DownEnd L t w) := by
  obtain ⟨W0, hW0⟩ : ∃ W0, w.alloc (.cells #[.string t.1.1, .int .i64 t.1.2, .slice a (lenF t.2) c] 26) = W0 := ⟨_, rfl⟩
  have hb0 : Below w.heap.size w W0 := by rw [← hW0]; exact alloc_below0 _ _
  have B0 : Box W0 w.heap.size 26 #[.string t.1.1, .int .i64 t.1.2, .slice a (lenF t.2) c] := by rw [← hW0]; exact Box.new _ _ _
  obtain ⟨hO, hR⟩ := right_facts hr
  have HW := hid (wayDown_any S n cap L t a c W0 (hS.below hb0) (hT.below hb0) hn hO unit_joins hR hc)
  have d0 := B0.v (k := 0) rfl; have d1 := B0.v (k := 1) rfl; have d2 := B0.v (k := 2) rfl
  have HB0 := hid hb0
  have HSQ : Hid (sizeT t * sizeT t ≤ 40000) := hid (Nat.mul_le_mul hn hn)
  clear hb0 B0 hS hT hn hr hc hO hR
  go_enter Try.func23, Try.ntmps23
  go_wp2_with fail
  clear hW0
  refine HW.out.mono ?_
  rintro e w1 ⟨B, ls, X, vs, pv, sv, bv, rfl, hdn, hwk, hls, hb1⟩
  have s2 := hwk.box.v (k := 2) rfl
  have hvl : vs.length = ls.length := by rw [← hls, List.length_map]
  obtain ⟨sa, sc, hsv, h1, h2, h3⟩ := hwk.list (by have := hdn.cost; have := HSQ.out; omega)
  have HDN := hid hdn; have HLS := hid hls; have HB1 := hid (HB0.out.trans (hb1.mono HB0.out.size)); have H1 := hid h1; have H2 := hid h2; have H3 := hid h3; have HVL := hid hvl; have HSV := hid hsv
  clear hdn hwk hls hb1 hvl hsv h1 h2 h3 d0 d1 d2 HW
  go_wp2_with fail
  go_ret
  refine ⟨sa, sc, ls, ?_, ?_, by rw [← HVL.out]; exact H1.out, H2.out, HDN.out, HB1.out⟩
  · show Ending.returned sv = _
    rw [HSV.out, HVL.out]
  · have := H3.out
    rw [HVL.out, show (vs.map fun x => x.b.st) = (vs.map Wv.b).map Bs.st from by rw [List.map_map]; rfl, HLS.out] at this
    exact this
set_option maxRecDepth 100000 in
set_option maxHeartbeats 8000000 in
theorem down_walk (p : Option Addr) (n c : Nat) (l : List Sym) (A : Tn) (a : Option Addr) (ca : Nat) (w : World)
    (hS : SigAt w p n l) (hA : TmAt w A.1 a ca A.2) (hAc : Cln A.2) :
    Calls Try.prog 6 #[.slice p n c, .agg #[.string A.1.1, .int .i64 A.1.2, .slice a (lenF A.2) ca]] w fun e w' => e = .returned (.bool true) ∧ Below w.heap.size w w' := by
  obtain ⟨W0, hW0⟩ : ∃ W0, w.alloc (.cells #[.string A.1.1, .int .i64 A.1.2, .slice a (lenF A.2) ca] 26) = W0 := ⟨_, rfl⟩
  have hb0 : Below w.heap.size w W0 := by rw [← hW0]; exact alloc_below0 _ _
  have X0 : Box W0 w.heap.size 26 (tmC A a ca) := by rw [← hW0]; exact Box.new _ _ _
  have HS := hid hS; have HA := hid hA; have HAC := hid hAc; have HX0 := hid X0; have HB0 := hid hb0
  clear hS hA hAc X0 hb0
  go_enter Try.func6, Try.ntmps6
  go_wp2_with fail
  clear hW0
  refine (head_any W0).mono ?_
  rintro e w1 ⟨rfl, hb1⟩
  have X1 := HX0.out.below hb1
  have hbw1 : Below w.heap.size w w1 := HB0.out.trans (hb1.mono HB0.out.size)
  have HX1 := hid X1; have HB1 := hid hbw1
  have x0 := X1.v (k := 0) rfl; have x1 := X1.v (k := 1) rfl; have x2 := X1.v (k := 2) rfl
  clear X1 hb1 hbw1
  obtain ⟨ov, hov⟩ : ∃ ov, decide (60 < nodesF A.2 + 1) = ov := ⟨_, rfl⟩
  have OV := over_any A.1 A.2 a ca 60 w1 (HA.out.below HB1.out) (by omega)
  rw [hov] at OV
  have HOV := hid hov; have HOVC := hid OV
  clear hov OV
  go_wp2_with fail
  refine HOVC.out.mono ?_
  rintro e w2 ⟨rfl, hb2⟩
  have X2 := HX1.out.below hb2
  have hbw2 : Below w.heap.size w w2 := HB1.out.trans (hb2.mono HB1.out.size)
  have HX2 := hid X2; have HB2 := hid hbw2
  clear x0 x1 x2
  have x0 := X2.v (k := 0) rfl; have x1 := X2.v (k := 1) rfl; have x2 := X2.v (k := 2) rfl
  clear X2 hb2 hbw2 HOVC
  go_wp2_with fail
  refine (rright_any p n c l A a ca w2 (HS.out.below HB2.out) (HA.out.below HB2.out)).mono ?_
  rintro e w3 ⟨rfl, hb3⟩
  have X3 := HX2.out.below hb3
  have hbw3 : Below w.heap.size w w3 := HB2.out.trans (hb3.mono HB2.out.size)
  have HX3 := hid X3; have HB3 := hid hbw3
  clear x0 x1 x2
  obtain ⟨rt, hrt⟩ : ∃ rt, rightB l A = rt := ⟨_, rfl⟩
  rw [hrt]
  have HRT := hid hrt
  have x0 := X3.v (k := 0) rfl; have x1 := X3.v (k := 1) rfl; have x2 := X3.v (k := 2) rfl
  clear X3 hb3 hbw3 hrt
  cases ov with
  | true =>
    go_wp2_with fail
    go_ret
    exact ⟨rfl, HB3.out⟩
  | false =>
    cases rt with
    | false =>
      go_wp2_with fail
      go_ret
      exact ⟨rfl, HB3.out⟩
    | true =>
      have hnod : nodesF A.2 ≤ 59 := by have := of_decide_eq_false HOV.out; omega
      have hsz : sizeT A ≤ 60 := by unfold sizeT; omega
      have HNOD := hid hnod; have HSZ := hid hsz
      have HDW := hid (down_any p n c l A a ca w3 (HS.out.below HB3.out) (HA.out.below HB3.out) (by omega) HRT.out HAC.out)
      clear hnod hsz
      go_wp2_with fail
      refine HDW.out.mono ?_
      rintro e w4 ⟨la, lc, ls, rfl, hst, hlc, hlm, hdn, hb4⟩
      have hbw4 : Below w.heap.size w w4 := HB3.out.trans (hb4.mono HB3.out.size)
      have X4 := HX3.out.below hb4
      have hlen : ls.length ≤ 14400 := by
        have h1 := hdn.cost
        have h2 : sizeT A * sizeT A ≤ 3600 := Nat.mul_le_mul HSZ.out HSZ.out
        omega
      have HST := hid hst; have HDN := hid hdn; have HB4 := hid hbw4; have HX4 := hid X4; have HLEN := hid hlen
      obtain ⟨ct, hct⟩ : ∃ ct, canonT (sgOf l) A = ct := ⟨_, rfl⟩
      have HCT := hid hct
      have HCN := canon_all p n c l 1048576 (Nat.le_refl _) A a ca w4 (by have := HNOD.out; omega) (HS.out.below hbw4) (HA.out.below hbw4)
      rw [hct] at HCN
      have HCN := hid HCN
      clear x0 x1 x2 HDW
      have x0 := X4.v (k := 0) rfl; have x1 := X4.v (k := 1) rfl; have x2 := X4.v (k := 2) rfl
      clear hst hdn hb4 hbw4 X4 hlen hct
      obtain ⟨N, hN⟩ : ∃ N : Nat, ls.length = N := ⟨_, rfl⟩
      have HNE := hid hN
      rw [hN] at hlc ⊢
      clear hN
      unfold maxLen at hlm
      go_wp2_with fail
      refine HCN.out.mono ?_
      rintro e w5 ⟨a5, c5, rfl, hT5, hb5⟩
      obtain ⟨V5, hV5⟩ : ∃ V5, w5.alloc (.cells #[.string ct.1.1, .int .i64 ct.1.2, .slice a5 (lenF ct.2) c5] 26) = V5 := ⟨_, rfl⟩
      have hb55 : Below w5.heap.size w5 V5 := by rw [← hV5]; exact alloc_below0 _ _
      have C5 : Box V5 w5.heap.size 26 (tmC ct a5 c5) := by rw [← hV5]; exact Box.new _ _ _
      have hb45 : Below w4.heap.size w4 V5 := hb5.trans (hb55.mono hb5.size)
      have hbw5 : Below w.heap.size w V5 := HB4.out.trans (hb45.mono HB4.out.size)
      have X5 := HX4.out.below hb45
      have hTC := hT5.tm.below hb55
      have hPl := rplay_any p n c l A a ca la N lc (ls.map Bs.st) V5 (HS.out.below hbw5) (HA.out.below hbw5) (by have := HNOD.out; have := HLEN.out; have := HNE.out; omega) HRT.out HAC.out (by have := HST.out.below hb45; rw [HNE.out] at this; exact this)
      rw [HDN.out.play, HCT.out] at hPl
      have HPL := hid hPl; have HC5 := hid C5; have HB5 := hid hbw5; have HX5 := hid X5; have HTC := hid hTC; have HST5 := hid (HST.out.below hb45)
      clear x0 x1 x2 HCN
      have x0 := X5.v (k := 0) rfl; have x1 := X5.v (k := 1) rfl; have x2 := X5.v (k := 2) rfl
      clear hT5 hb5 hb55 C5 hb45 hbw5 X5 hTC hPl
      go_wp2_with fail
      refine HPL.out.mono ?_
      rintro e w6 ⟨a6, c6, he6, hT6, hb6⟩
      have he6 : e = .returned (.tuple #[.agg #[.string ct.1.1, .int .i64 ct.1.2, .slice a6 (lenF ct.2) c6], .int .i64 0, .int .i64 0]) := he6
      subst he6
      have hT6 : TmAt w6 ct.1 a6 c6 ct.2 := hT6
      obtain ⟨V6, hV6⟩ : ∃ V6, w6.alloc (.cells #[.string ct.1.1, .int .i64 ct.1.2, .slice a6 (lenF ct.2) c6] 26) = V6 := ⟨_, rfl⟩
      have hb66 : Below w6.heap.size w6 V6 := by rw [← hV6]; exact alloc_below0 _ _
      have C6 : Box V6 w6.heap.size 26 (tmC ct a6 c6) := by rw [← hV6]; exact Box.new _ _ _
      have hb56 : Below V5.heap.size V5 V6 := hb6.trans (hb66.mono hb6.size)
      have hbw6 : Below w.heap.size w V6 := HB5.out.trans (hb56.mono HB5.out.size)
      have X6 := HX5.out.below hb56
      have hPP := pplay_any p n c l A a ca la N lc (ls.map Bs.st) V6 (HS.out.below hbw6) (HA.out.below hbw6) (by have := HNOD.out; have := HLEN.out; have := HNE.out; omega) (by have := HST5.out.below hb56; rw [HNE.out] at this; exact this)
      rw [HDN.out.play, HCT.out] at hPP
      have HPP := hid hPP; have HC6 := hid C6; have HC56 := hid (HC5.out.below hb56); have HB6 := hid hbw6; have HX6 := hid X6; have HT6 := hid (hT6.below hb66); have HTC6 := hid (HTC.out.below hb56)
      clear x0 x1 x2 HPL
      have x0 := X6.v (k := 0) rfl; have x1 := X6.v (k := 1) rfl; have x2 := X6.v (k := 2) rfl
      clear hT6 hb6 hb66 C6 hb56 hbw6 X6 hPP hV5
      go_wp2_with fail
      refine HPP.out.mono ?_
      rintro e w7 ⟨a7, c7, he7, hF7, hb7⟩
      have he7 : e = .returned (.tuple #[.agg #[.string ct.1.1, .int .i64 ct.1.2, .slice a7 (lenF ct.2) c7], .int .i64 0, .int .i64 0]) := he7
      subst he7
      have hT7 : TmAt w7 ct.1 a7 c7 ct.2 := hF7.tm
      obtain ⟨V7, hV7⟩ : ∃ V7, w7.alloc (.cells #[.string ct.1.1, .int .i64 ct.1.2, .slice a7 (lenF ct.2) c7] 26) = V7 := ⟨_, rfl⟩
      have hb77 : Below w7.heap.size w7 V7 := by rw [← hV7]; exact alloc_below0 _ _
      have C7 : Box V7 w7.heap.size 26 (tmC ct a7 c7) := by rw [← hV7]; exact Box.new _ _ _
      have hb67 : Below V6.heap.size V6 V7 := hb7.trans (hb77.mono hb7.size)
      have HBW7 := hid (HB6.out.trans (hb67.mono HB6.out.size))
      have HXA := hid (HX6.out.below hb67); have HCW := hid (HC56.out.below hb67); have HCX := hid (HC6.out.below hb67); have HCY := hid C7
      have HTW := hid (HTC6.out.below hb67); have HTX := hid (HT6.out.below hb67); have HTY := hid (hT7.below hb77)
      have HE1 := hid (exact_any ct.1 ct.2 a6 a5 c6 c5 V7 HTX.out HTW.out)
      clear x0 x1 x2 HPP
      have p0 := HCX.out.v (k := 0) rfl; have p1 := HCX.out.v (k := 1) rfl; have p2 := HCX.out.v (k := 2) rfl
      have q0 := HCW.out.v (k := 0) rfl; have q1 := HCW.out.v (k := 1) rfl; have q2 := HCW.out.v (k := 2) rfl
      clear hF7 hT7 hb7 hb77 C7 hb67 hV6
      go_wp2_with fail
      refine HE1.out.mono ?_
      rintro e w8 ⟨rfl, hb8⟩
      have HB8 := hid hb8
      have HE2 := hid (exact_any ct.1 ct.2 a7 a5 c7 c5 w8 (HTY.out.below hb8) (HTW.out.below hb8))
      have CY8 := HCY.out.below hb8; have CW8 := HCW.out.below hb8
      clear p0 p1 p2 q0 q1 q2 HE1
      have p0 := CY8.v (k := 0) rfl; have p1 := CY8.v (k := 1) rfl; have p2 := CY8.v (k := 2) rfl
      have q0 := CW8.v (k := 0) rfl; have q1 := CW8.v (k := 1) rfl; have q2 := CW8.v (k := 2) rfl
      clear hb8 CY8 CW8
      go_wp2_with fail
      refine HE2.out.mono ?_
      rintro e w9 ⟨rfl, hb9⟩
      have hb79 : Below V7.heap.size V7 w9 := HB8.out.trans (hb9.mono HB8.out.size)
      have HB9 := hid (HBW7.out.trans (hb79.mono HBW7.out.size))
      have XA9 := HXA.out.below hb79; have CW9 := HCW.out.below hb79
      obtain ⟨ex, hex⟩ : ∃ ex, exN A.1 ct.1 A.2 ct.2 = ex := ⟨_, rfl⟩
      have hE3 := rexact_any A ct a a5 ca c5 w9 (HA.out.below HB9.out) (HTW.out.below hb79)
      rw [hex] at hE3
      have HE3 := hid hE3; have HEX := hid hex
      clear p0 p1 p2 q0 q1 q2 HE2
      have p0 := XA9.v (k := 0) rfl; have p1 := XA9.v (k := 1) rfl; have p2 := XA9.v (k := 2) rfl
      have q0 := CW9.v (k := 0) rfl; have q1 := CW9.v (k := 1) rfl; have q2 := CW9.v (k := 2) rfl
      clear hb9 hb79 XA9 CW9 hE3 hex
      by_cases hN0 : N = 0
      · subst hN0
        go_wp2_with fail
        go_ret
        exact ⟨rfl, HB9.out⟩
      · have hexf : ex = false := by
          cases ex with
          | false => rfl
          | true =>
            exfalso
            obtain ⟨hO, hR⟩ := right_facts HRT.out
            have hcc : Cln ct.2 := by
              rw [← HCT.out]
              exact (Runs.ok hO unit_joins hR HAC.out HDN.out.runs).2.1
            have := exN_eq HAC.out hcc HEX.out
            have h2 := HDN.out.idle (by rw [HCT.out]; exact this.symm)
            rw [h2] at HNE
            exact hN0 HNE.out.symm
        subst hexf
        have hN1 : (N : Int) ≠ 0 := by omega
        go_wp2_with (first | (go_at_call 16; refine HE3.out.mono ?_; rintro e w10 ⟨rfl, hb10⟩; have HB10 := hid (HB9.out.trans (hb10.mono HB9.out.size)); clear hb10) | fail)
        go_ret
        exact ⟨rfl, HB10.out⟩
end Go.Proofs.Ytokbgbbkopmngaa
namespace Go.Proofs.Ytokbgbbkopmngaa
open Go.ChangeShapes Go.WideShapes Go.ChangeAt Go.RowKit Go.Deep

set_option maxRecDepth 100000 in
theorem deriveDown_lifted (os : Os) (started : os.Started) (H : Type) (enc : TypeId × Value → H) :
    ReturnsInHanded {} Try.checked os 6 .any (Rows.deriveDownSpec.pre6 enc Try.prog Try.f6 Rows.deriveDownRow.domain false) (Rows.deriveDownSpec.post enc Try.prog Try.f6 false true false false) := by
  refine returnsInHanded_of_change_sized (C := Try.checked) own started (by kernel_rfl) Try.func6
    (ChangeSpec.witness6 (enc := enc) (C := Try.checked) false ⟨#[], #[.slice none 0 0, .agg #[.string .empty, .int .i64 0, .slice none 0 0]], []⟩ 8 (by kernel_rfl) (by kernel_rfl) (by kernel_rfl) (by kernel_rfl)) ?_
  intro W base args ds gs before hval0 hW hcnd hsz0 _
  have hval : ∀ (j : Nat) t v, Try.f6.params[j]? = some t → args[j]? = some v → Value.okWide Try.prog W .any base t v := hval0
  have hsz : (DataW.weightsEach Try.prog (Try.f6.params.toList ++ Rows.deriveDownSpec.plain.varTypes Try.prog) (ds ++ gs)).all (· ≤ reachBytes) = true := hsz0
  have hW' := hW
  obtain ⟨p, q, hA0, hV, rfl, hfz, hnd⟩ := hW
  have hA : DataW.TrodAll enc Try.prog W 0 (fun _ => true) true Try.f6.params.toList args.toList ds p := hA0
  rw [Try.params6] at hA hval hsz
  obtain ⟨v0, vs0, d0, ds0, p0, q0, hargs, rfl, rfl, h0, r0⟩ := trodAll_cons hA
  obtain ⟨v1, vs1, d1, ds1, p1, q1, rfl, rfl, rfl, h1, r1⟩ := trodAll_cons r0
  obtain ⟨rfl, rfl, rfl⟩ := trodAll_nil r1
  obtain rfl : args = #[v0, v1] := by cases args; simp_all
  obtain ⟨rfl, rfl⟩ := trodVars_none hV
  have lt0 : ∀ x ∈ p0, x.block < W.heap.size := by obtain ⟨m, hm⟩ := h0; exact DataW.trod_lt m _ _ _ hm
  have lt1 : ∀ x ∈ p1, x.block < W.heap.size := by obtain ⟨m, hm⟩ := h1; exact DataW.trod_lt m _ _ _ hm
  obtain ⟨p, n, c, rfl⟩ := okWide_slice Try.underlying23 (hval 0 23 v0 rfl rfl)
  obtain ⟨fuel0, hf⟩ := id h0
  have hf1 : DataW.trod enc Try.prog W 0 (fun _ => true) true fuel0 23 [.slice p n c] = some (d0, p0) := hf
  obtain ⟨p', n', c', L, he, hS, _⟩ := sig_open hf1
  cases he
  obtain ⟨A, a, ca, l, rfl, hx, _⟩ := termv_open (hval 1 26 v1 rfl rfl) h1 (sz_of_weights hsz (j := 1) rfl rfl)
  clear hA0 hval0 hsz0 hf hf1
  have hw := down_walk p n c L (clT (A, l)) a ca W hS (clF_tm hx) (cln_cl l)
  unfold clT at hw
  simp only [clF_len] at hw
  refine hw.mono fun e W' ⟨he, bel⟩ => ?_
  subst he
  exact ⟨_, rfl, _, _, _, [], _, [], hW', trodAll_mk1 (shut_bool Try.underlying4 _), (trodAll_cons_mk (Below.trod laidOut (by kernel_rfl) (of_decide_eq_true (by kernel_rfl)) h0 bel lt0) (trodAll_cons_mk (Below.trod laidOut (by kernel_rfl) (of_decide_eq_true (by kernel_rfl)) h1 bel lt1) trodAll_mk0)), rfl, bel.frame _, fun h => by cases h⟩

theorem deriveDown_holds : Rows.DeriveDownSaid :=
  OpenClaim.holds_of_wide 6 Try.f6 rfl rfl rfl rfl rfl rfl rfl ⟨rfl, rfl, rfl, rfl, rfl⟩ rfl rfl rfl rfl rfl (by kernel_rfl) Try.func6 (by kernel_rfl)
    (of_decide_eq_true (by kernel_rfl)) (by unfold Func.isWrapper; first | (rw [if_pos (by decide +kernel)]; kernel_rfl) | (rw [if_neg (by decide +kernel)]; exact ⟨rfl, rfl⟩))
    (fun os started H enc _ => deriveDown_lifted os started H enc)
end Go.Proofs.Ytokbgbbkopmngaa
