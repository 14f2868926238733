/- Texts laid together: TKept, TSig, TRChk, TRChkB, TSep, TRClone, TPath, STab, SLeft, SFits. -/
import Derived.Test.YtgidgmgpgfonnaaGreatM0
/- What Kept answers of a lent term that reads as it did. -/
namespace Go.Proofs.YtgidgmgpgfonnaaGreat
open Go.RowKit Go.Deep

set_option maxRecDepth 100000 in
theorem OwnKids.drop {mk : Bool} {P : Nat → Prop} {w : World} : ∀ (i : Nat) {F : Fo} {b o : Nat}, OwnKids mk P w F b o → OwnKids mk P w (dropF i F) b (o + i * 3)
  | 0, F, b, o, h => by rw [drop_zero]; simpa using h
  | i + 1, .nil, b, o, _ => by simp [dropF, OwnKids]
  | i + 1, .node _ _ _ _ r, b, o, ⟨_, hr⟩ => by
    have := OwnKids.drop i hr
    rw [show o + 3 + i * 3 = o + (i + 1) * 3 by omega] at this
    exact this
set_option maxRecDepth 100000 in
theorem OwnKids.kid {mk : Bool} {P : Nat → Prop} {w : World} {F : Fo} {b o k : Nat} (h : OwnKids mk P w F b o) (hk : k < lenF F) : ∃ x a c l, Kid w F b o k x a c l ∧ OwnTm mk P w x a c l := by
  obtain ⟨B, O, x, l, r, hd⟩ := drop_node k F hk
  have h1 := h.drop k
  have h2 := nodes_drop k F
  rw [hd] at h1 h2
  obtain ⟨⟨a, c, h3, h4, h5, h6, h7⟩, _⟩ := h1
  have ho : OwnTm mk P w x a c l := ⟨h6, h7⟩
  exact ⟨x, a, c, l, ⟨h3, h4, h5, ho.tm, ⟨B, O, by rw [drop_succ k F hd]; exact hd⟩, by simp only [nodesF] at h2; omega⟩, ho⟩
set_option maxRecDepth 100000 in
theorem kid_same {w w' : World} {F : Fo} {b o b' o' k : Nat} {x y : ByteArray × Int} {a a' : Option Addr} {c c' : Nat} {l m : Fo} (h : Kid w F b o k x a c l) (h' : Kid w' F b' o' k y a' c' m) : y = x ∧ m = l := by
  obtain ⟨_, _, e⟩ := h.split
  obtain ⟨_, _, e'⟩ := h'.split
  rw [e] at e'
  cases e'
  exact ⟨rfl, rfl⟩

/-- The two boxes of a function of two terms. -/
structure Pair (w : World) (x : ByteArray × Int) (a : Option Addr) (n c : Nat) (y : ByteArray × Int) (b : Option Addr) (m d : Nat) (W : World) : Prop where
  low : Below w.heap.size w W
  l : TBox W w.heap.size x a n c
  r : TBox W (w.heap.size + 1) y b m d
set_option maxRecDepth 100000 in
theorem Pair.new (w : World) (x : ByteArray × Int) (a : Option Addr) (n c : Nat) (y : ByteArray × Int) (b : Option Addr) (m d : Nat) : Pair w x a n c y b m d ((w.alloc (.cells #[.string x.1, .int .i64 x.2, .slice a n c] 27)).alloc (.cells #[.string y.1, .int .i64 y.2, .slice b m d] 27)) := by
  refine ⟨((Below.refl _ w).alloc (Nat.le_refl _) _).alloc (by simp) _, (TBox.new w x a n c).below ((Below.refl _ _).alloc (Nat.le_refl _) _), ?_⟩
  have := TBox.new (w.alloc (.cells #[.string x.1, .int .i64 x.2, .slice a n c] 27)) y b m d
  rw [World.size_alloc] at this
  exact this
set_option maxRecDepth 100000 in
theorem Pair.below {w : World} {x : ByteArray × Int} {a : Option Addr} {n c : Nat} {y : ByteArray × Int} {b : Option Addr} {m d : Nat} {W W' : World} (h : Pair w x a n c y b m d W) (hb : Below W.heap.size W W') : Pair w x a n c y b m d W' :=
  ⟨h.low.trans (hb.mono h.low.size), h.l.below hb, h.r.below hb⟩

def KeptOk (k : Nat) : Prop := ∀ (P : Nat → Prop) (x : ByteArray × Int) (l : Fo) (a b : Option Addr) (c d : Nat) (w : World), nodesF l ≤ k → OwnTm true P w x a c l → TmAt w x b d l →
  Calls Tryz.prog 20 #[.agg #[.string x.1, .int .i64 x.2, .slice a (lenF l) c], .agg #[.string x.1, .int .i64 x.2, .slice b (lenF l) d]] w fun e w' => e = .returned (.bool true) ∧ Below w.heap.size w w'

set_option maxRecDepth 100000 in
set_option maxHeartbeats 2000000 in
theorem kept_all : ∀ k, KeptOk k := by
  intro k
  induction k using Nat.strongRecOn with
  | _ k ih =>
    intro P x l a b c d w hk hO hT
    have HO : Hid (OwnTm true P w x a c l) := hO
    have HT : Hid (TmAt w x b d l) := hT
    have IH : Hid (∀ j, j < k → KeptOk j) := ih
    rcases hO.list with ⟨_, h⟩ | ⟨g, cur, rfl, _, _, hm, hok⟩
    · cases h
    obtain ⟨hcap, hmark⟩ := hm rfl
    have hcm := hO.sizes.cap
    have HK : Hid (OwnKids true P w l g 0) := hok
    have PA : Hid (Pair w x (some ⟨g, 0, none⟩) (lenF l) c x b (lenF l) d ((w.alloc (.cells #[.string x.1, .int .i64 x.2, .slice (some ⟨g, 0, none⟩) (lenF l) c] 27)).alloc (.cells #[.string x.1, .int .i64 x.2, .slice b (lenF l) d] 27))) := Pair.new _ _ _ _ _ _ _ _ _
    have mk2 := below_cell PA.out.low _ _ hmark
    have hmax : maxLen = 9223372036854775807 := rfl
    unfold markB at mk2
    clear hO hT ih hok hm hmark
    go_enter Tryz.func20, Tryz.ntmps20
    go_wp2
    go_loopw [6, 7] (fun i _ wr => ∃ j : Nat, j ≤ lenF l ∧ i = .int .i64 j ∧ Pair w x (some ⟨g, 0, none⟩) (lenF l) c x b (lenF l) d wr) (fun i _ _ => lenF l - (intOf i).toNat)
    case atStart => exact ⟨0, Nat.zero_le _, rfl, PA.out⟩
    case round =>
      obtain ⟨j, hj, rfl, hP⟩ := hrel
      have t2 := hP.r.c2
      by_cases hlt : j < lenF l
      · obtain ⟨bb, oo, rfl, hkk⟩ := HT.out.args.get (by omega)
        obtain ⟨y, a1, c1, l1, kd, ko⟩ := HK.out.kid (k := j) hlt
        obtain ⟨y', a2, c2, l2, kd2⟩ := hkk.kid (k := j) hlt
        obtain ⟨rfl, rfl⟩ := kid_same kd kd2
        have KO : Hid (OwnTm true P wr y' a1 c1 l2) := ko.below hP.low
        have K2 : Hid (TmAt wr y' a2 c2 l2) := kd2.at_.below hP.low
        have kd' := kd.below hP.low
        have kd2' := kd2.below hP.low
        have n0 := kd'.name; have n1 := kd'.sym; have n2 := kd'.list
        simp only [Nat.zero_add] at n0 n1 n2
        have HP : Hid (Pair w x (some ⟨g, 0, none⟩) (lenF l) c x (some ⟨bb, oo, none⟩) (lenF l) d wr) := hP
        have hC : Hid (∀ w', Below wr.heap.size wr w' → Calls Tryz.prog 20 #[.agg #[.string y'.1, .int .i64 y'.2, .slice a1 (lenF l2) c1], .agg #[.string y'.1, .int .i64 y'.2, .slice a2 (lenF l2) c2]] w' fun e w'' => e = .returned (.bool true) ∧ Below w'.heap.size w' w'') := fun w' hb =>
          IH.out (nodesF l2) (by have := kd.less; omega) P y' l2 a1 a2 c1 c2 w' (Nat.le_refl _) (KO.out.below hb) (K2.out.below hb)
        have hne := later_some wr
        have d0 := later_cell hP.l.c2
        have d1 := later_cell hP.r.c2
        have p0 := later_cell n0; have p1 := later_cell n1; have p2 := later_cell n2
        have q0 := later_cell kd2'.name; have q1 := later_cell kd2'.sym; have q2 := later_cell kd2'.list
        have hk0 : (0 : Int) ≤ (j : Int) := by omega
        have hkn : (j : Int) < (lenF l : Int) := by omega
        clear kd kd2 kd' kd2' ko hkk hP n0 n1 n2
        go_wp2_with fail
        refine wp_region_later (by kernel_rfl) (by kernel_rfl) ?_
        repeat (go_big_quiet_step ((refine calls_later (hC.out _ ?_); exact Later.below _)))
        refine wpQuiet_nil ?_
        intro _ hw'
        obtain ⟨b2, hw''⟩ := hw'
        subst hw''
        have HP2 : Hid (Pair w x (some ⟨g, 0, none⟩) (lenF l) c x (some ⟨bb, oo, none⟩) (lenF l) d b2.now) := HP.out.below b2.below
        clear d0 d1 p0 p1 p2 q0 q1 q2 t2
        go_wp2
        go_roundw
        case rel => exact ⟨j + 1, by omega, by go_num, HP2.out⟩
        case measure => simp [intOf]; omega
      · go_wp2
        go_ret
        exact ⟨rfl, hP.low⟩

set_option maxRecDepth 100000 in
theorem kept_any (P : Nat → Prop) (x : ByteArray × Int) (l : Fo) (a b : Option Addr) (c d : Nat) (w : World) (hO : OwnTm true P w x a c l) (hT : TmAt w x b d l) :
    Calls Tryz.prog 20 #[.agg #[.string x.1, .int .i64 x.2, .slice a (lenF l) c], .agg #[.string x.1, .int .i64 x.2, .slice b (lenF l) d]] w fun e w' => e = .returned (.bool true) ∧ Below w.heap.size w w' :=
  kept_all _ P x l a b c d w (Nat.le_refl _) hO hT
end Go.Proofs.YtgidgmgpgfonnaaGreat
/- Signatures in memory; what is wrong with a node, plain and as the program and the document say it. -/
namespace Go.Proofs.YtgidgmgpgfonnaaGreat
open Go.RowKit Go.Deep

def takesB (s : Sym) (n : Nat) : Bool := if s.kind = 1 then (n : Int) == s.arity else decide (2 ≤ n)
def varErr (x : ByteArray × Int) (n : Nat) : Int := if varB x.1 = true ∧ x.2 = 0 ∧ n = 0 then 0 else 31
/-- What is wrong with a node. -/
def nodeErr (S : List Sym) (x : ByteArray × Int) (n : Nat) : Int :=
  if noName x.1 = false then varErr x n else if 0 ≤ x.2 then (match S[x.2.toNat]? with | some s => if takesB s n = true then 0 else 33 | none => 32) else 32

theorem nodeErr_in {S : List Sym} {x : ByteArray × Int} {n : Nat} (h : noName x.1 = true) (h0 : 0 ≤ x.2) (h1 : x.2.toNat < S.length) : nodeErr S x n = if takesB S[x.2.toNat] n = true then 0 else 33 := by
  unfold nodeErr
  rw [if_neg (by simp [h]), if_pos h0, List.getElem?_eq_getElem h1]
theorem nodeErr_out {S : List Sym} {x : ByteArray × Int} {n : Nat} (h : noName x.1 = true) (h1 : x.2 < 0 ∨ (S.length : Int) ≤ x.2) : nodeErr S x n = 32 := by
  unfold nodeErr
  rw [if_neg (by simp [h])]
  by_cases h0 : 0 ≤ x.2
  · rw [if_pos h0, List.getElem?_eq_none (by omega)]
  · rw [if_neg h0]

end Go.Proofs.YtgidgmgpgfonnaaGreat
/- What the document's Check answers of any term by any signature. -/
namespace Go.Proofs.YtgidgmgpgfonnaaGreat
open Go.RowKit Go.Deep

/-- What is wrong in a list of terms: of the first node at which something is. -/
def errF (S : List Sym) : Fo → Int
  | .nil => 0
  | .node _ _ x l r => thenC (thenC (nodeErr S x (lenF l)) (errF S l)) (errF S r)
def errT (S : List Sym) (x : ByteArray × Int) (l : Fo) : Int := thenC (nodeErr S x (lenF l)) (errF S l)
/-- What is left of most nodes; below zero, if there are more. -/
def ovF : Fo → Int → Int
  | .nil, m => m
  | .node _ _ _ l r, m => if m < 0 then m else ovF r (ovF l (m - 1))
theorem ov_neg : ∀ (F : Fo) (m : Int), m < 0 → ovF F m = m
  | .nil, _, _ => rfl
  | .node _ _ _ _ _, m, h => by rw [ovF, if_pos h]
theorem ov_is : ∀ (F : Fo) (m : Int), 0 ≤ m → ovF F m = if (nodesF F : Int) ≤ m then m - nodesF F else -1
  | .nil, m, h => by simp [ovF, nodesF, h]
  | .node _ _ x l r, m, h => by
    show _ = if ((nodesF l + nodesF r + 1 : Nat) : Int) ≤ m then m - ((nodesF l + nodesF r + 1 : Nat) : Int) else -1
    rw [ovF, if_neg (by omega)]
    by_cases h1 : m = 0
    · subst h1
      rw [ov_neg l _ (by omega), ov_neg r _ (by omega), if_neg (by omega)]; rfl
    · rw [ov_is l (m - 1) (by omega)]
      by_cases h2 : (nodesF l : Int) ≤ m - 1
      · rw [if_pos h2, ov_is r _ (by omega)]
        by_cases h3 : (nodesF r : Int) ≤ m - 1 - nodesF l
        · rw [if_pos h3, if_pos (by omega)]; omega
        · rw [if_neg h3, if_neg (by omega)]
      · rw [if_neg h2, ov_neg r _ (by omega), if_neg (by omega)]

set_option maxHeartbeats 1000000 in
theorem node_any (S : List Sym) (sa : Option Addr) (sn sc : Nat) (x : ByteArray × Int) (a : Option Addr) (n c : Nat) (w : World) (hS : SigAt w sa sn S) (hs : x.1.size ≤ maxLen) :
    Calls Tryz.prog 69 #[.slice sa sn sc, .agg #[.string x.1, .int .i64 x.2, .slice a n c]] w fun e w' => e = .returned (.int .i64 (nodeErr S x n)) ∧ Below w.heap.size w w' := by
  have hb1 : Hid (Below w.heap.size w (w.alloc (.cells #[.string x.1, .int .i64 x.2, .slice a n c] 27))) := (Below.refl _ w).alloc (Nat.le_refl _) _
  have hlen := hS.len
  have hsm := hS.small
  have HS : Hid (SigAt w sa sn S) := hS
  unfold maxLen at hsm
  clear hS
  cases hx : x.1.toList.isEmpty
  · have hE : Hid (nodeErr S x n = varErr x n) := by show _ = _; unfold nodeErr noName; rw [hx]; rfl
    have hE2 : varErr x n = if varB x.1 = true ∧ x.2 = 0 ∧ n = 0 then 0 else 31 := rfl
    have bx := TBox.new w x a n c
    have hv := rvar_any x.1 (w.alloc (.cells #[.string x.1, .int .i64 x.2, .slice a n c] 27)) hs
    go_enter Tryz.func69, Tryz.ntmps69
    go_wp2_with fail
    refine hv.mono ?_
    rintro e w2 ⟨rfl, hw2⟩
    have HB : Hid (Below w.heap.size w w2) := by first | (rw [hw2]; exact hb1.out) | exact hb1.out.trans (hw2.mono hb1.out.size)
    have bx2 : TBox w2 w.heap.size x a n c := by first | (rw [hw2]; exact bx) | exact bx.below hw2
    have c1 := bx2.c1
    have c2 := bx2.c2
    clear hv bx bx2 hw2
    cases h1 : varB x.1
    · rw [h1] at hE2
      go_wp2
      go_ret
      exact ⟨by rw [hE.out, hE2]; simp, HB.out⟩
    · rw [h1] at hE2
      cases h2 : (x.2 != 0)
      · have h2' : x.2 = 0 := by simpa using h2
        by_cases h3 : 0 < n
        · go_wp2
          go_ret
          exact ⟨by rw [hE.out, hE2, if_neg (by omega)]; rfl, HB.out⟩
        · go_wp2
          go_ret
          exact ⟨by rw [hE.out, hE2, if_pos (by simp; omega)]; rfl, HB.out⟩
      · have h2' : x.2 ≠ 0 := by simpa using h2
        go_wp2
        go_ret
        exact ⟨by rw [hE.out, hE2, if_neg (by simp; omega)]; rfl, HB.out⟩
  · by_cases h0 : x.2 < 0
    · have hE : Hid (nodeErr S x n = 32) := nodeErr_out hx (.inl h0)
      go_enter Tryz.func69, Tryz.ntmps69
      go_wp2
      go_ret
      exact ⟨by rw [hE.out]; rfl, hb1.out⟩
    · by_cases h1 : (sn : Int) ≤ x.2
      · have hE : Hid (nodeErr S x n = 32) := nodeErr_out hx (.inr (by omega))
        go_enter Tryz.func69, Tryz.ntmps69
        go_wp2
        go_ret
        exact ⟨by rw [hE.out]; rfl, hb1.out⟩
      · have hlt : x.2.toNat < S.length := by omega
        have hE : Hid (nodeErr S x n = if takesB S[x.2.toNat] n = true then 0 else 33) := nodeErr_in hx (by omega) hlt
        obtain ⟨b, off, rfl, sy⟩ := HS.out.cells _ hlt
        have sy' := sy.below hb1.out
        have hk0 : (0 : Int) ≤ x.2 := by omega
        have hkn : x.2 < (sn : Int) := by omega
        have s0 := sy'.name; have s1 := sy'.kind; have s2 := sy'.arity; have s3 := sy'.unit
        clear sy sy' HS hlen
        obtain ⟨s, hsd⟩ : ∃ s, S[x.2.toNat] = s := ⟨_, rfl⟩
        rw [hsd] at s0 s1 s2 s3 hE
        clear hsd
        have hT : takesB s n = if s.kind = 1 then (n : Int) == s.arity else decide (2 ≤ n) := rfl
        have hb2 : Hid (Below w.heap.size w ((w.alloc (.cells #[.string x.1, .int .i64 x.2, .slice a n c] 27)).alloc (.cells #[.string s.name, .int .i64 s.kind, .int .i64 s.arity, .string s.unit] 69))) := hb1.out.alloc hb1.out.size _
        cases hk : (s.kind == 1)
        · have hk2 : (s.kind != 1) = true := by simpa using hk
          rw [if_neg (by simpa using hk)] at hT
          by_cases h2 : n < 2
          · rw [show decide (2 ≤ n) = false by simp; omega] at hT
            rw [hT] at hE
            go_enter Tryz.func69, Tryz.ntmps69
            go_wp2
            go_ret
            exact ⟨by rw [hE.out]; rfl, hb2.out⟩
          · rw [show decide (2 ≤ n) = true by simp; omega] at hT
            rw [hT] at hE
            go_enter Tryz.func69, Tryz.ntmps69
            go_wp2
            go_ret
            exact ⟨by rw [hE.out]; rfl, hb2.out⟩
        · have hk2 : (s.kind != 1) = false := by simpa using hk
          rw [if_pos (by simpa using hk)] at hT
          cases ha : ((n : Int) == s.arity)
          · rw [ha] at hT
            rw [hT] at hE
            have ha' : ((n : Int) != s.arity) = true := by simpa using ha
            go_enter Tryz.func69, Tryz.ntmps69
            go_wp2
            go_ret
            exact ⟨by rw [hE.out]; rfl, hb2.out⟩
          · rw [ha] at hT
            rw [hT] at hE
            have ha' : ((n : Int) != s.arity) = false := by simpa using ha
            go_enter Tryz.func69, Tryz.ntmps69
            go_wp2
            go_ret
            exact ⟨by rw [hE.out]; rfl, hb2.out⟩
end Go.Proofs.YtgidgmgpgfonnaaGreat
/- How many nodes, and what is wrong node by node: the document's Check, whole. -/
namespace Go.Proofs.YtgidgmgpgfonnaaGreat
open Go.RowKit Go.Deep

/-- The box of a function of one term. -/
structure One (w : World) (x : ByteArray × Int) (a : Option Addr) (n c : Nat) (W : World) : Prop where
  low : Below w.heap.size w W
  t : TBox W w.heap.size x a n c
theorem One.new (w : World) (x : ByteArray × Int) (a : Option Addr) (n c : Nat) : One w x a n c (w.alloc (.cells #[.string x.1, .int .i64 x.2, .slice a n c] 27)) := ⟨(Below.refl _ w).alloc (Nat.le_refl _) _, TBox.new _ _ _ _ _⟩
theorem One.below {w : World} {x : ByteArray × Int} {a : Option Addr} {n c : Nat} {W W' : World} (h : One w x a n c W) (hb : Below W.heap.size W W') : One w x a n c W' := ⟨h.low.trans (hb.mono h.low.size), h.t.below hb⟩

def NdOk (S : List Sym) (k : Nat) : Prop := ∀ (sa : Option Addr) (sn sc : Nat) (x : ByteArray × Int) (l : Fo) (a : Option Addr) (c : Nat) (w : World), nodesF l ≤ k → SigAt w sa sn S → TmAt w x a c l →
  Calls Tryz.prog 48 #[.slice sa sn sc, .agg #[.string x.1, .int .i64 x.2, .slice a (lenF l) c]] w fun e w' => e = .returned (.int .i64 (errT S x l)) ∧ Below w.heap.size w w'

set_option maxRecDepth 100000 in
set_option maxHeartbeats 1000000 in
theorem nodes_all (S : List Sym) : ∀ k, NdOk S k := by
  intro k
  induction k using Nat.strongRecOn with
  | _ k ih =>
    intro sa sn sc x l a c w hk hS hT
    have HS : Hid (SigAt w sa sn S) := hS
    have HT : Hid (TmAt w x a c l) := hT
    have IH : Hid (∀ j, j < k → NdOk S j) := ih
    have O0 : Hid (One w x a (lenF l) c (w.alloc (.cells #[.string x.1, .int .i64 x.2, .slice a (lenF l) c] 27))) := One.new _ _ _ _ _
    have hn : lenF l ≤ 9223372036854775807 := by have := hT.sizes.len; have := hT.sizes.cap; unfold maxLen at *; omega
    have hC := node_any S sa sn sc x a (lenF l) c _ (hS.below O0.out.low) hT.sizes.name
    clear hT ih hS
    go_enter Tryz.func48, Tryz.ntmps48
    go_wp2_with fail
    refine hC.mono ?_
    rintro e w2 ⟨rfl, hb⟩
    have O2 : Hid (One w x a (lenF l) c w2) := O0.out.below hb
    clear hC hb O0
    go_wp2
    go_loopw [5, 6] (fun er i wr => ∃ (j : Nat) (q : Int), j ≤ lenF l ∧ er = .int .i64 q ∧ i = .int .i64 j ∧ One w x a (lenF l) c wr ∧ errT S x l = thenC q (errF S (dropF j l))) (fun _ i _ => lenF l - (intOf i).toNat)
    case atStart => exact ⟨0, _, Nat.zero_le _, rfl, rfl, O2.out, by rw [drop_zero]; rfl⟩
    case round =>
      obtain ⟨j, q, hj, rfl, rfl, hO, her⟩ := hrel
      have t2 := hO.t.c2
      by_cases hlt : j < lenF l
      · cases hq : (q == 0)
        · have her' : Hid (errT S x l = q) := by show _ = _; rw [her]; unfold thenC; rw [if_neg (by simpa using hq)]
          clear her
          go_wp2
          go_ret
          exact ⟨by rw [her'.out]; rfl, hO.low⟩
        · obtain ⟨b1, o1, rfl, hk1⟩ := HT.out.args.get (by omega)
          obtain ⟨z, a1, c1, l1, kd⟩ := hk1.kid (k := j) hlt
          have kd' := kd.below hO.low
          obtain ⟨B1, O1, s1⟩ := kd.split
          have hq0 : q = 0 := by simpa using hq
          rw [s1, errF] at her
          have HER : Hid (errT S x l = thenC (errT S z l1) (errF S (dropF (j + 1) l))) := by show _ = _; rw [her, hq0]; rfl
          have p0 := kd'.name; have p1 := kd'.sym; have p2 := kd'.list
          have hC := IH.out (nodesF l1) (by have := kd.less; omega) sa sn sc z l1 a1 c1 wr (Nat.le_refl _) (HS.out.below hO.low) kd'.at_
          have HO : Hid (One w x (some ⟨b1, o1, none⟩) (lenF l) c wr) := hO
          clear kd kd' hk1 her s1 hO
          go_wp2_with fail
          refine hC.mono ?_
          rintro e w3 ⟨rfl, hb⟩
          have HO2 : Hid (One w x (some ⟨b1, o1, none⟩) (lenF l) c w3) := HO.out.below hb
          clear hC hb p0 p1 p2 t2
          go_wp2
          go_roundw
          case rel => exact ⟨j + 1, _, by omega, rfl, by go_num, HO2.out, HER.out⟩
          case measure => simp [intOf]; omega
      · have e1 : j = lenF l := by omega
        have her' : Hid (errT S x l = q) := by
          show _ = _
          rw [her, e1, drop_end, errF]; unfold thenC
          split
          · rename_i h; exact h.symm
          · rfl
        clear her
        go_wp2
        go_ret
        exact ⟨by rw [her'.out]; rfl, hO.low⟩

end Go.Proofs.YtgidgmgpgfonnaaGreat
/- Terms in memory no two of whose lists share a block. -/
namespace Go.Proofs.YtgidgmgpgfonnaaGreat
open Go.RowKit Go.Deep

/-- From this cell on these terms lie; their own lists have blocks of A, each another. -/
def SepKids (w : World) : Fo → (Nat → Prop) → Nat → Nat → Prop
  | .nil, _, _, _ => True
  | .node _ _ x l r, A, b, o => ∃ A1 A2 : Nat → Prop, (∀ k, A1 k → A k) ∧ (∀ k, A2 k → A k ∧ ¬ A1 k) ∧
      (∃ a c, w.cell? ⟨b, o, none⟩ = some (.string x.1) ∧ w.cell? ⟨b, o + 1, none⟩ = some (.int .i64 x.2) ∧ w.cell? ⟨b, o + 2, none⟩ = some (.slice a (lenF l) c) ∧ Sizes x.1 (lenF l) c ∧
        (l = .nil ∨ ∃ g cur, a = some ⟨g, 0, none⟩ ∧ A1 g ∧ w.heap[g]? = some (Obj.cells cur 27 (0, 0)) ∧ SepKids w l (fun k => A1 k ∧ k ≠ g) g 0)) ∧ SepKids w r A2 b (o + 3)
structure SepTm (w : World) (A : Nat → Prop) (x : ByteArray × Int) (a : Option Addr) (c : Nat) (l : Fo) : Prop where
  sizes : Sizes x.1 (lenF l) c
  list : l = .nil ∨ ∃ g cur, a = some ⟨g, 0, none⟩ ∧ A g ∧ w.heap[g]? = some (Obj.cells cur 27 (0, 0)) ∧ SepKids w l (fun k => A k ∧ k ≠ g) g 0

theorem SepKids.kids {w : World} : ∀ {F : Fo} {A : Nat → Prop} {b o : Nat}, SepKids w F A b o → KidsAt w F b o
  | .nil, _, _, _, _ => trivial
  | .node _ _ _ l r, A, b, o, ⟨A1, A2, _, _, ⟨a, c, h0, h1, h2, hs, hl⟩, hr⟩ => ⟨⟨a, c, h0, h1, h2, hs, by
      rcases hl with h | ⟨g, cur, ha, _, _, hk⟩
      · exact .inl h
      · exact .inr ⟨g, 0, ha, SepKids.kids hk⟩⟩, SepKids.kids hr⟩
theorem SepTm.tm {w : World} {A : Nat → Prop} {x : ByteArray × Int} {a : Option Addr} {c : Nat} {l : Fo} (h : SepTm w A x a c l) : TmAt w x a c l :=
  ⟨h.sizes, by
    rcases h.list with h | ⟨g, cur, ha, _, _, hk⟩
    · exact .inl h
    · exact .inr ⟨g, 0, ha, hk.kids⟩⟩
theorem SepKids.mono {w : World} : ∀ {F : Fo} {A A' : Nat → Prop} {b o : Nat}, (∀ k, A k → A' k) → SepKids w F A b o → SepKids w F A' b o
  | .nil, _, _, _, _, _, _ => trivial
  | .node _ _ _ _ _, _, _, _, _, hA, ⟨A1, A2, h1, h2, h3, h4⟩ => ⟨A1, A2, fun k hk => hA k (h1 k hk), fun k hk => ⟨hA k (h2 k hk).1, (h2 k hk).2⟩, h3, h4⟩
theorem SepTm.mono {w : World} {A A' : Nat → Prop} {x : ByteArray × Int} {a : Option Addr} {c : Nat} {l : Fo} (hA : ∀ k, A k → A' k) (h : SepTm w A x a c l) : SepTm w A' x a c l :=
  ⟨h.sizes, by
    rcases h.list with h | ⟨g, cur, ha, hg, hc, hk⟩
    · exact .inl h
    · exact .inr ⟨g, cur, ha, hA g hg, hc, hk.mono (fun k hk => ⟨hA k hk.1, hk.2⟩)⟩⟩
/-- The cells of the list itself are as they were from this place on; so are the blocks of A. -/
theorem SepKids.keep {w w' : World} : ∀ {F : Fo} {A : Nat → Prop} {b o : Nat}, (∀ k, A k → k < w.heap.size → w'.heap[k]? = w.heap[k]?) → (∀ i v, o ≤ i → w.cell? ⟨b, i, none⟩ = some v → w'.cell? ⟨b, i, none⟩ = some v) → SepKids w F A b o → SepKids w' F A b o
  | .nil, _, _, _, _, _, _ => trivial
  | .node _ _ _ l r, A, b, o, hp, hb, ⟨A1, A2, h1, h2, ⟨a, c, c0, c1, c2, hs, hl⟩, hr⟩ => ⟨A1, A2, h1, h2, ⟨a, c, hb _ _ (Nat.le_refl _) c0, hb _ _ (by omega) c1, hb _ _ (by omega) c2, hs, by
      rcases hl with h | ⟨g, cur, ha, hg, hc, hk⟩
      · exact .inl h
      · have hgg := hp g (h1 g hg) (Array.getElem?_eq_some_iff.1 hc).1
        exact .inr ⟨g, cur, ha, hg, hgg.trans hc, SepKids.keep (fun k hk hlt => hp k (h1 k hk.1) hlt) (fun i v _ hv => (World.cell?_of_block hgg).trans hv) hk⟩⟩,
    SepKids.keep (fun k hk hlt => hp k (h2 k hk).1 hlt) (fun i v hi hv => hb i v (by omega) hv) hr⟩
theorem SepTm.keep {w w' : World} {A : Nat → Prop} {x : ByteArray × Int} {a : Option Addr} {c : Nat} {l : Fo} (hp : ∀ k, A k → k < w.heap.size → w'.heap[k]? = w.heap[k]?) (h : SepTm w A x a c l) : SepTm w' A x a c l :=
  ⟨h.sizes, by
    rcases h.list with h | ⟨g, cur, ha, hg, hc, hk⟩
    · exact .inl h
    · have hgg := hp g hg (Array.getElem?_eq_some_iff.1 hc).1
      exact .inr ⟨g, cur, ha, hg, hgg.trans hc, hk.keep (fun k hk hlt => hp k hk.1 hlt) (fun i v _ hv => (World.cell?_of_block hgg).trans hv)⟩⟩
theorem SepTm.below {w w' : World} {A : Nat → Prop} {x : ByteArray × Int} {a : Option Addr} {c : Nat} {l : Fo} (h : SepTm w A x a c l) (hb : Below w.heap.size w w') : SepTm w' A x a c l := h.keep fun k _ hk => hb.block k hk
/-- The blocks that there are serve. -/
theorem SepKids.within {w : World} : ∀ {F : Fo} {A : Nat → Prop} {b o : Nat}, SepKids w F A b o → SepKids w F (fun k => A k ∧ k < w.heap.size) b o
  | .nil, _, _, _, _ => trivial
  | .node _ _ _ l r, A, b, o, ⟨A1, A2, h1, h2, ⟨a, c, c0, c1, c2, hs, hl⟩, hr⟩ => ⟨fun k => A1 k ∧ k < w.heap.size, fun k => A2 k ∧ k < w.heap.size, fun k hk => ⟨h1 k hk.1, hk.2⟩, fun k hk => ⟨⟨(h2 k hk.1).1, hk.2⟩, fun h => (h2 k hk.1).2 h.1⟩, ⟨a, c, c0, c1, c2, hs, by
      rcases hl with h | ⟨g, cur, ha, hg, hc, hk⟩
      · exact .inl h
      · exact .inr ⟨g, cur, ha, ⟨hg, (Array.getElem?_eq_some_iff.1 hc).1⟩, hc, (SepKids.within hk).mono (fun k hk => ⟨⟨hk.1.1, hk.2⟩, hk.1.2⟩)⟩⟩, SepKids.within hr⟩
theorem SepTm.within {w : World} {A : Nat → Prop} {x : ByteArray × Int} {a : Option Addr} {c : Nat} {l : Fo} (h : SepTm w A x a c l) : SepTm w (fun k => A k ∧ k < w.heap.size) x a c l :=
  ⟨h.sizes, by
    rcases h.list with h | ⟨g, cur, ha, hg, hc, hk⟩
    · exact .inl h
    · exact .inr ⟨g, cur, ha, ⟨hg, (Array.getElem?_eq_some_iff.1 hc).1⟩, hc, hk.within.mono (fun k hk => ⟨⟨hk.1.1, hk.2⟩, hk.1.2⟩)⟩⟩

/-! ### lists of such terms -/
def SepL (w : World) : List Kv → (Nat → Prop) → Prop
  | [], _ => True
  | k :: r, A => ∃ A1 A2 : Nat → Prop, (∀ q, A1 q → A q) ∧ (∀ q, A2 q → A q ∧ ¬ A1 q) ∧ SepTm w A1 k.x k.a k.c k.l ∧ SepL w r A2
theorem SepL.keep {w w' : World} : ∀ {ks : List Kv} {A : Nat → Prop}, (∀ k, A k → k < w.heap.size → w'.heap[k]? = w.heap[k]?) → SepL w ks A → SepL w' ks A
  | [], _, _, _ => trivial
  | _ :: _, _, hp, ⟨A1, A2, h1, h2, h3, h4⟩ => ⟨A1, A2, h1, h2, h3.keep (fun k hk hlt => hp k (h1 k hk) hlt), SepL.keep (fun k hk hlt => hp k (h2 k hk).1 hlt) h4⟩
theorem SepL.mono {w : World} : ∀ {ks : List Kv} {A A' : Nat → Prop}, (∀ k, A k → A' k) → SepL w ks A → SepL w ks A'
  | [], _, _, _, _ => trivial
  | _ :: _, _, _, hA, ⟨A1, A2, h1, h2, h3, h4⟩ => ⟨A1, A2, fun k hk => hA k (h1 k hk), fun k hk => ⟨hA k (h2 k hk).1, (h2 k hk).2⟩, h3, h4⟩
theorem SepL.snoc {w : World} {kv : Kv} {B : Nat → Prop} (hk : SepTm w B kv.x kv.a kv.c kv.l) : ∀ {ks : List Kv} {A : Nat → Prop}, (∀ q, A q → ¬ B q) → SepL w ks A → SepL w (ks ++ [kv]) (fun q => A q ∨ B q)
  | [], A, _, _ => ⟨B, fun _ => False, fun q hq => .inr hq, fun q hq => hq.elim, hk, trivial⟩
  | k :: r, A, hd, ⟨A1, A2, h1, h2, h3, h4⟩ => ⟨A1, fun q => A2 q ∨ B q, fun q hq => .inl (h1 q hq), fun q hq => by
      rcases hq with hq | hq
      · exact ⟨.inl (h2 q hq).1, (h2 q hq).2⟩
      · exact ⟨.inr hq, fun h => hd q (h1 q h) hq⟩, h3, SepL.snoc hk (fun q hq => hd q (h2 q hq).1) h4⟩
theorem sepKids_of {w : World} {b : Nat} : ∀ (F : Fo) (ks : List Kv) (A : Nat → Prop) (o : Nat), ks.map (fun k => (k.x, k.l)) = kidsL F → (∀ j u, (kvCells ks)[j]? = some u → w.cell? ⟨b, o + j, none⟩ = some u) → SepL w ks A → SepKids w F A b o
  | .nil, _, _, _, _, _, _ => trivial
  | .node _ _ x l r, [], _, o, h, _, _ => by simp [kidsL] at h
  | .node _ _ x l r, k :: ks, A, o, h, hc, ⟨A1, A2, h1, h2, h3, h4⟩ => by
    simp only [List.map_cons, kidsL, List.cons.injEq, Prod.mk.injEq] at h
    obtain ⟨⟨rfl, rfl⟩, h⟩ := h
    have e : kvCells (k :: ks) = .string k.x.1 :: .int .i64 k.x.2 :: .slice k.a (lenF k.l) k.c :: kvCells ks := rfl
    rw [e] at hc
    refine ⟨A1, A2, h1, h2, ⟨k.a, k.c, hc 0 _ rfl, hc 1 _ rfl, hc 2 _ rfl, h3.sizes, h3.list⟩, sepKids_of r ks A2 (o + 3) h (fun j u hu => ?_) h4⟩
    have := hc (j + 3) u (by simpa using hu)
    rw [show o + 3 + j = o + (j + 3) by omega]
    exact this
end Go.Proofs.YtgidgmgpgfonnaaGreat
/- What the document's Clone makes: the term in new memory, its own list in a row of its own. -/
namespace Go.Proofs.YtgidgmgpgfonnaaGreat
open Go.RowKit Go.Deep

/-- A term whose list is a row of a new block, the lists beneath it in other new blocks. -/
structure RowTm (B0 : Nat) (W : World) (x : ByteArray × Int) (a : Option Addr) (c : Nat) (l : Fo) : Prop where
  sizes : Sizes x.1 (lenF l) c
  list : l = .nil ∨ ∃ g cur, a = some ⟨g, 0, none⟩ ∧ B0 ≤ g ∧ W.heap[g]? = some (Obj.cells cur 27 (0, 0)) ∧ OwnKids false (fun q => B0 ≤ q ∧ q ≠ g) W l g 0
set_option maxRecDepth 100000 in
theorem RowTm.own {B0 : Nat} {W : World} {x : ByteArray × Int} {a : Option Addr} {c : Nat} {l : Fo} (h : RowTm B0 W x a c l) : OwnTm false (fun q => B0 ≤ q) W x a c l :=
  ⟨h.sizes, by
    rcases h.list with h | ⟨g, cur, ha, hg, hc, hk⟩
    · exact .inl ⟨h, rfl⟩
    · exact .inr ⟨g, cur, ha, hg, hc, (fun e => by cases e), hk.mono (fun q _ hq => hq.1)⟩⟩
set_option maxRecDepth 100000 in
theorem RowTm.keep {B0 : Nat} {W W' : World} {x : ByteArray × Int} {a : Option Addr} {c : Nat} {l : Fo} (h : RowTm B0 W x a c l) (hp : ∀ k, B0 ≤ k → k < W.heap.size → W'.heap[k]? = W.heap[k]?) : RowTm B0 W' x a c l :=
  ⟨h.sizes, by
    rcases h.list with h | ⟨g, cur, ha, hg, hc, hk⟩
    · exact .inl h
    · have hgg := hp g hg (Array.getElem?_eq_some_iff.1 hc).1
      exact .inr ⟨g, cur, ha, hg, hgg.trans hc, hk.keep (fun k hk hlt => hp k hk.1 hlt) hgg⟩⟩
set_option maxRecDepth 100000 in
theorem RowTm.below {B0 : Nat} {W W' : World} {x : ByteArray × Int} {a : Option Addr} {c : Nat} {l : Fo} (h : RowTm B0 W x a c l) (hb : Below W.heap.size W W') : RowTm B0 W' x a c l := h.keep fun k _ hk => hb.block k hk

set_option maxRecDepth 100000 in
/-- The list when it is built. -/
theorem built_done {w wr : World} {x : ByteArray × Int} {l : Fo} {v : Value} {ks : List Kv} (hB : Built false w wr v (lenF l) ks) (hks : ks.map (fun k => (k.x, k.l)) = kidsL l) (hx : x.1.size ≤ maxLen) (hf : lenF l * 48 ≤ 140737488351232) :
    ∃ a c, v = .slice a (lenF l) c ∧ RowTm (w.heap.size + 3) wr x a c l := by
  rcases hB.row.2 with ⟨hv, h0⟩ | ⟨g, cap, cur, rfl, hb, hg, hnc, hcm, hsz, hcur⟩
  · refine ⟨none, 0, by rw [h0]; exact hv, ⟨hx, by omega, by simp, hf⟩, .inl (len_nil h0)⟩
  · refine ⟨_, cap, rfl, ⟨hx, hnc, hcm, hf⟩, .inr ⟨g, cur, rfl, hb, hg, ownKids_of l ks 0 hks (owns_at hB.row) (fun k hk => ?_)⟩⟩
    exact (hB.own k hk).mono (fun q _ hq => ⟨hq.1, fun e => hq.2 (by rw [e]; rfl)⟩)

def RCloneOk (k : Nat) : Prop := ∀ (x : ByteArray × Int) (l : Fo) (a : Option Addr) (c : Nat) (w : World), nodesF l ≤ k → TmAt w x a c l →
  Calls Tryz.prog 36 #[.agg #[.string x.1, .int .i64 x.2, .slice a (lenF l) c]] w fun e w' => ∃ a' c', e = .returned (.agg #[.string x.1, .int .i64 x.2, .slice a' (lenF l) c']) ∧ RowTm w.heap.size w' x a' c' l ∧ Below w.heap.size w w'

set_option maxRecDepth 100000 in
set_option maxHeartbeats 4000000 in
theorem rclone_all : ∀ k, RCloneOk k := by
  intro k
  induction k using Nat.strongRecOn with
  | _ k ih =>
    intro x l a c w hk hT
    obtain ⟨i0, hi, hz0, hz1, hz2⟩ := info_parts Tryz.info27
    have HT : Hid (TmAt w x a c l) := hT
    have IH : Hid (∀ j, j < k → RCloneOk j) := ih
    have hn : lenF l ≤ 9223372036854775807 := by have := hT.sizes.len; have := hT.sizes.cap; unfold maxLen at *; omega
    have hfew := hT.sizes.few
    clear hT ih
    go_enter Tryz.func36, Tryz.ntmps36
    go_wp2
    go_loopw [4] (fun i wr => ∃ (j : Nat) (v : Value) (ks : List Kv), j ≤ lenF l ∧ i = .int .i64 j ∧ Three w x a (lenF l) c wr v ∧ Built false w wr v j ks ∧ ks.map (fun k => (k.x, k.l)) = (kidsL l).take j) (fun i _ => lenF l - (intOf i).toNat)
    case atStart => exact ⟨0, _, [], Nat.zero_le _, rfl, Three.new w x a (lenF l) c, ⟨World.ownsRow_nil _ _ _ _, by simp⟩, by simp⟩
    case round =>
      obtain ⟨j, v, ks, hj, rfl, hTh, hBu, hks⟩ := hrel
      have hb := hTh.low
      have bT := hTh.t
      have bX := hTh.x
      have hrow := hBu.row
      have t2 := bT.c2
      by_cases hlt : j < lenF l
      · obtain ⟨bb, oo, rfl, hkk⟩ := HT.out.args.get (by omega)
        obtain ⟨y, a1, c1, l1, kd⟩ := hkk.kid (k := j) hlt
        have kd' := kd.below hb
        have X0 : Hid (XBox wr (w.heap.size + 1 + 1) x v) := bX
        have cX := X0.out.c2
        have hbb : bb < w.heap.size := World.block_lt_of_cell? w _ kd.name
        have p0 := kd'.name; have p1 := kd'.sym; have p2 := kd'.list
        have hIH := IH.out (nodesF l1) (by have := kd.less; omega) y l1 a1 c1 wr.drew (Nat.le_refl _) (kd'.at_.kept (fun _ _ h => h))
        have HIH : Hid (Calls Tryz.prog 36 #[.agg #[.string y.1, .int .i64 y.2, .slice a1 (lenF l1) c1]] wr.drew fun e w' => ∃ a' c', e = .returned (.agg #[.string y.1, .int .i64 y.2, .slice a' (lenF l1) c']) ∧ RowTm wr.heap.size w' y a' c' l1 ∧ Below wr.heap.size wr.drew w') := hIH
        have HR : Hid (wr.ownsRow (w.heap.size + 3) 27 3 v j (kvCells ks)) := hrow
        have HB : Hid (Below w.heap.size w wr) := hb
        have TH : Hid (Three w x (some ⟨bb, oo, none⟩) (lenF l) c wr v) := hTh
        have BU : Hid (Built false w wr v j ks) := hBu
        have HK : Hid (ks.map (fun k => (k.x, k.l)) = (kidsL l).take j) := hks
        have KD : Hid (Kid w l bb oo j y a1 c1 l1) := kd
        have hmax : maxLen = 9223372036854775807 := rfl
        have hXlt : w.heap.size + 1 + 1 < wr.heap.size := X0.out.lt
        clear hIH kd' hkk kd hrow hb hTh hBu hks bT bX
        go_wp2_with fail
        go_region_law
          ((first
            | (refine step_append_lies _ (by rfl) (.tmp 18) (.tmp 25) 25 (by rfl) (w.heap.size + 3) 27 i0 _ 3 48 Tryz.underlying25 hi hz0 hz1 hz2 rfl (by decide) v j (kvCells ks) (by rfl) (owns_below (owns_below HR.out HW1.out) ((Below.refl _ _).alloc (Nat.le_refl _) _)) ⟨w1.heap.size, 0, none⟩ 1 1 (Kv.cells ⟨y, l1, a', c'⟩) (by rfl) rfl (World.news_of_block (heap_alloc_new w1 _)) (kv_one _) (by decide) (by omega) (by omega) (by have := HW1.out.size; simp; omega) _ rfl ?_; intro g3 cap3 w3 hown3 hgrow3 hat3 hlt3; have X3 : Hid (XBox w3 (w.heap.size + 1 + 1) x v) := X2.out.kept hgrow3 (fun e => by have := (owns_cells HR.out e.symm).1; omega); have cX3 := X3.out.c2; have fX3 := X3.out.f (k := 2); have HO3 : Hid (w3.ownsRow (w.heap.size + 3) 27 3 (.slice (some ⟨g3, 0, none⟩) (j + 1) cap3) (j + 1) (kvCells ks ++ Kv.cells ⟨y, l1, a', c'⟩)) := hown3; have HG3 : Hid ((w1.alloc (.cells #[.string y.1, .int .i64 y.2, .slice a' (lenF l1) c'] 27)).grownBy w3 v.ownBlock ∧ (v.ownBlock = some g3 ∨ g3 = w1.heap.size + 1)) := ⟨hgrow3, by simpa using hat3⟩; clear hown3 hgrow3 hat3)
            | (go_simp; go_wp2_with (go_at_call 36; refine HIH.out.mono ?_; rintro e w1 ⟨a', c', rfl, ho1, hb1⟩; have HO1 : Hid (OwnTm false (fun k => wr.heap.size ≤ k) w1 y a' c' l1) := ho1.own; have HW1 : Hid (Below wr.heap.size wr w1) := ((Below.refl _ wr).drew).trans hb1; have X1 : Hid (XBox w1 (w.heap.size + 1 + 1) x v) := X0.out.below HW1.out; have cX1 := X1.out.c2; have X2 : Hid (XBox (w1.alloc (.cells #[.string y.1, .int .i64 y.2, .slice a' (lenF l1) c'] 27)) (w.heap.size + 1 + 1) x v) := X1.out.below ((Below.refl _ _).alloc (Nat.le_refl _) _); have cX2 := X2.out.c2; clear ho1 hb1))
            | fail))
        all_goals
          go_wp2
          go_roundw
          case rel =>
            obtain ⟨h1, h2⟩ := build_step (kv := ⟨y, l1, a', c'⟩) TH.out BU.out HW1.out HO1.out HG3.out.1 HG3.out.2 HO3.out
            obtain ⟨B1, O1, sp⟩ := KD.out.split
            exact ⟨j + 1, _, _, by omega, by go_num, h1, h2, by rw [kids_take sp, ← HK.out]; simp⟩
          case measure => simp [intOf]; omega
      · have hjl : j = lenF l := by omega
        subst hjl
        have hks' : ks.map (fun k => (k.x, k.l)) = kidsL l := by rw [hks, ← kids_len, List.take_length]
        obtain ⟨a3, c3, rfl, hrt⟩ := built_done hBu hks' HT.out.sizes.name HT.out.sizes.few
        have x0 := bX.c0; have x1 := bX.c1; have x2 := bX.c2
        have R4 : XBox wr (w.heap.size + 1) (⟨#[]⟩, 0) (.slice none 0 0) := hTh.r
        have r0 := R4.c0
        have r1 := R4.c1
        have r2 := R4.c2
        have f0 := R4.f (k := 0)
        have f1 := R4.f (k := 1)
        have f2 := R4.f (k := 2)
        have HR4 : Hid (XBox wr (w.heap.size + 1) (⟨#[]⟩, 0) (.slice none 0 0)) := R4
        have HL : Hid (Below w.heap.size w wr) := hb
        have HRT : Hid (RowTm (w.heap.size + 3) wr x a3 c3 l) := hrt
        clear R4 hTh hBu hks hks' hb bT bX hrow hrt
        go_wp2
        refine bodyPost_ret (results_cell_row rfl _ _ (w.heap.size + 1) 27 #[.string x.1, .int .i64 x.2, .slice a3 (lenF l) c3] (0, 0) _ rfl (HR4.out.all (x := x) _) Tryz.underlying27 rfl Tryz.size27) rfl ?_
        refine ⟨a3, c3, rfl, ?_, sets_below HL.out (by omega) _ _ _⟩
        have h := HRT.out.keep (W' := (((wr.setCell ⟨w.heap.size + 1, 0, none⟩ (.string x.1)).setCell ⟨w.heap.size + 1, 1, none⟩ (.int .i64 x.2)).setCell ⟨w.heap.size + 1, 2, none⟩ (.slice a3 (lenF l) c3))) (fun q hq _ => sets_far (by omega) _ _ _)
        exact ⟨h.sizes, by
          rcases h.list with h | ⟨g, cur, ha, hg, hc, hk⟩
          · exact .inl h
          · exact .inr ⟨g, cur, ha, by omega, hc, hk.mono (fun q _ hq => ⟨by omega, hq.2⟩)⟩⟩
set_option maxRecDepth 100000 in
theorem rclone_any (x : ByteArray × Int) (l : Fo) (a : Option Addr) (c : Nat) (w : World) (hT : TmAt w x a c l) :
    Calls Tryz.prog 36 #[.agg #[.string x.1, .int .i64 x.2, .slice a (lenF l) c]] w fun e w' => ∃ a' c', e = .returned (.agg #[.string x.1, .int .i64 x.2, .slice a' (lenF l) c']) ∧ RowTm w.heap.size w' x a' c' l ∧ Below w.heap.size w w' :=
  rclone_all _ x l a c w (Nat.le_refl _) hT
end Go.Proofs.YtgidgmgpgfonnaaGreat
/- What stands at a path, and what another term put there makes; where it lies in memory. -/
namespace Go.Proofs.YtgidgmgpgfonnaaGreat
open Go.RowKit Go.Deep

abbrev Tn := (ByteArray × Int) × Fo
def kidT (i : Int) (l : Fo) : Option Tn := if 0 ≤ i ∧ i < lenF l then (kidsL l)[i.toNat]? else none
def setF : Nat → Fo → Tn → Fo
  | _, .nil, _ => .nil
  | 0, .node b o _ _ r, t => .node b o t.1 t.2 r
  | n + 1, .node b o x l r, t => .node b o x l (setF n r t)
def subT : List Int → Tn → Option Tn
  | [], t => some t
  | i :: p, t => match kidT i t.2 with
    | none => none
    | some k => subT p k
def putT (u : Tn) : List Int → Tn → Option Tn
  | [], _ => some u
  | i :: p, t => match kidT i t.2 with
    | none => none
    | some k => match putT u p k with
      | none => none
      | some k' => some (t.1, setF i.toNat t.2 k')
def noT : Tn := ((⟨#[]⟩, 0), .nil)
def ansT (o : Option Tn) : Tn := o.getD noT
def ansE (o : Option Tn) : Int := match o with | none => 35 | some _ => 0

theorem len_set : ∀ (n : Nat) (F : Fo) (t : Tn), lenF (setF n F t) = lenF F
  | n, .nil, _ => by cases n <;> rfl
  | 0, .node _ _ _ _ _, _ => rfl
  | n + 1, .node _ _ _ _ r, t => by simp only [setF, lenF]; rw [len_set n r t]
theorem kids_split {F : Fo} {k : Nat} {x : ByteArray × Int} {l r : Fo} {B O : Nat} (h : dropF k F = .node B O x l r) : (kidsL F)[k]? = some (x, l) := by
  have h1 := kids_drop k F
  rw [h, kidsL] at h1
  have := congrArg (·[0]?) h1
  simpa using this.symm
theorem kidT_bad {i : Int} {l : Fo} (h : ¬ (0 ≤ i ∧ i < lenF l)) : kidT i l = none := if_neg h
theorem kidT_is {k : Nat} {l : Fo} {x : ByteArray × Int} {m : Fo} (hlt : k < lenF l) (h : (kidsL l)[k]? = some (x, m)) : kidT (k : Int) l = some (x, m) := by
  unfold kidT
  rw [if_pos (by omega), Int.toNat_natCast]
  exact h

/-- The path's numbers lie in this slice. -/
structure IntsAt (w : World) (a : Option Addr) (n : Nat) (ps : List Int) : Prop where
  len : n = ps.length
  cells : ∀ i (h : i < ps.length), ∃ b off, a = some ⟨b, off, none⟩ ∧ w.cell? ⟨b, off + i, none⟩ = some (.int .i64 ps[i])
theorem IntsAt.below {w w' : World} {a : Option Addr} {n : Nat} {ps : List Int} (h : IntsAt w a n ps) (hb : Below w.heap.size w w') : IntsAt w' a n ps :=
  ⟨h.len, fun i hi => by obtain ⟨b, off, ha, hc⟩ := h.cells i hi; exact ⟨b, off, ha, below_cell hb _ _ hc⟩⟩

/-- A term's three cells. -/
structure Node (w : World) (b o : Nat) (x : ByteArray × Int) (a : Option Addr) (c : Nat) (l : Fo) : Prop where
  name : w.cell? ⟨b, o, none⟩ = some (.string x.1)
  sym : w.cell? ⟨b, o + 1, none⟩ = some (.int .i64 x.2)
  list : w.cell? ⟨b, o + 2, none⟩ = some (.slice a (lenF l) c)
/-- From the term whose cells lie here the path leads to the one whose cells lie there. -/
def Leads (w : World) : List Int → Nat → Nat → Tn → Nat → Nat → Prop
  | [], b, o, _, b', o' => b' = b ∧ o' = o
  | i :: p, b, o, t, b', o' => ∃ (k g q c : Nat) (u : Tn), i = k ∧ k < lenF t.2 ∧ (kidsL t.2)[k]? = some u ∧ w.cell? ⟨b, o + 2, none⟩ = some (.slice (some ⟨g, q, none⟩) (lenF t.2) c) ∧ Leads w p g (q + k * 3) u b' o'

/-- Where another term is put in place of one of a list. -/
theorem SepKids.replace {W : World} : ∀ {F : Fo} {A : Nat → Prop} {b o : Nat} (i : Nat), SepKids W F A b o → i < lenF F →
    ∃ (t : Tn) (a : Option Addr) (c : Nat) (A1 : Nat → Prop), (∀ k, A1 k → A k) ∧ (kidsL F)[i]? = some t ∧ Node W b (o + i * 3) t.1 a c t.2 ∧ SepTm W A1 t.1 a c t.2 ∧
      ∀ (W' : World) (t' : Tn) (a' : Option Addr) (c' : Nat) (A3 : Nat → Prop), (∀ k, A3 k → ¬ A k) → (∀ k, A k → ¬ A1 k → k < W.heap.size → W'.heap[k]? = W.heap[k]?) →
        (∀ j v, o ≤ j → (j < o + i * 3 ∨ o + i * 3 + 3 ≤ j) → W.cell? ⟨b, j, none⟩ = some v → W'.cell? ⟨b, j, none⟩ = some v) → Node W' b (o + i * 3) t'.1 a' c' t'.2 → SepTm W' (fun k => A1 k ∨ A3 k) t'.1 a' c' t'.2 →
        SepKids W' (setF i F t') (fun k => A k ∨ A3 k) b o
  | .nil, _, _, _, i, _, hi => absurd hi (by simp [lenF])
  | .node _ _ x l r, A, b, o, 0, ⟨A1, A2, h1, h2, ⟨a, c, c0, c1, c2, hs, hl⟩, hr⟩, _ => by
    refine ⟨(x, l), a, c, A1, h1, rfl, ⟨by simpa using c0, by simpa using c1, by simpa using c2⟩, ⟨hs, hl⟩, ?_⟩
    intro W' t' a' c' A3 hd hk hc hn hS
    refine ⟨fun k => A1 k ∨ A3 k, A2, fun k hk => hk.elim (fun h => .inl (h1 k h)) .inr, fun k hk => ⟨.inl (h2 k hk).1, fun h => h.elim (h2 k hk).2 (fun h3 => hd k h3 (h2 k hk).1)⟩, ⟨a', c', by simpa using hn.name, by simpa using hn.sym, by simpa using hn.list, hS.sizes, hS.list⟩, ?_⟩
    exact hr.keep (fun k hk' hlt => hk k (h2 k hk').1 (h2 k hk').2 hlt) (fun j v hj hv => hc j v (by omega) (.inr (by omega)) hv)
  | .node _ _ x l r, A, b, o, i + 1, ⟨A1, A2, h1, h2, ⟨a, c, c0, c1, c2, hs, hl⟩, hr⟩, hi => by
    obtain ⟨t, ta, tc, B1, hB, ht, hn, hS, hrep⟩ := SepKids.replace i hr (by simp only [lenF] at hi; omega)
    have e : o + 3 + i * 3 = o + (i + 1) * 3 := by omega
    rw [e] at hn
    refine ⟨t, ta, tc, B1, fun k hk => (h2 k (hB k hk)).1, by simpa [kidsL] using ht, hn, hS, ?_⟩
    intro W' t' a' c' A3 hd hk hc hn' hS'
    refine ⟨A1, fun k => A2 k ∨ A3 k, fun k hk => .inl (h1 k hk), fun k hk => hk.elim (fun h => ⟨.inl (h2 k h).1, (h2 k h).2⟩) (fun h => ⟨.inr h, fun h' => hd k h (h1 k h')⟩), ⟨a, c, hc _ _ (Nat.le_refl _) (.inl (by omega)) c0, hc _ _ (by omega) (.inl (by omega)) c1, hc _ _ (by omega) (.inl (by omega)) c2, hs, ?_⟩, ?_⟩
    · rcases hl with h | ⟨g, cur, ha, hg, hcur, hkk⟩
      · exact .inl h
      · have same : ∀ k, A1 k → k < W.heap.size → W'.heap[k]? = W.heap[k]? := fun k h hlt => hk k (h1 k h) (fun hb => (h2 k (hB k hb)).2 h) hlt
        have hgg := same g hg (Array.getElem?_eq_some_iff.1 hcur).1
        exact .inr ⟨g, cur, ha, hg, hgg.trans hcur, hkk.keep (fun k h hlt => same k h.1 hlt) (fun j v _ hv => (World.cell?_of_block hgg).trans hv)⟩
    · rw [← e] at hn'
      exact hrep W' t' a' c' A3 (fun k h h' => hd k h (h2 k h').1) (fun k h h' hlt => hk k (h2 k h).1 h' hlt) (fun j v hj hor hv => hc j v (by omega) (by omega) hv) hn' hS'
theorem OwnKids.kids_in {W W' : World} {P Q : Nat → Prop} {b : Nat} (hPQ : ∀ k, P k → Q k) (hk : ∀ k, P k → k < W.heap.size → W'.heap[k]? = W.heap[k]?) : ∀ {F : Fo} {o : Nat}, OwnKids false P W F b o → (∀ j v, o ≤ j → W.cell? ⟨b, j, none⟩ = some v → W'.cell? ⟨b, j, none⟩ = some v) → OwnKids false Q W' F b o
  | .nil, _, _, _ => trivial
  | .node _ _ _ l r, o, ⟨⟨a, c, h0, h1, h2, hs, hl⟩, hr⟩, hc => ⟨⟨a, c, hc _ _ (Nat.le_refl _) h0, hc _ _ (by omega) h1, hc _ _ (by omega) h2, hs, by
      rcases hl with h | ⟨g, cur, ha, hg, hcur, hm, hkk⟩
      · exact .inl h
      · have hgg := hk g hg (Array.getElem?_eq_some_iff.1 hcur).1
        exact .inr ⟨g, cur, ha, hPQ g hg, hgg.trans hcur, (fun e => by cases e), (hkk.keep hk hgg).mono (fun k _ h => hPQ k h)⟩⟩, OwnKids.kids_in hPQ hk hr (fun j v hj hv => hc j v (by omega) hv)⟩
/-- The same where nothing is spoilt afterwards. -/
theorem OwnKids.replace {W W' : World} {P Q : Nat → Prop} {b : Nat} (hPQ : ∀ k, P k → Q k) (hk : ∀ k, P k → k < W.heap.size → W'.heap[k]? = W.heap[k]?) {t' : Tn} {a' : Option Addr} {c' : Nat} (hT : OwnTm false Q W' t'.1 a' c' t'.2) : ∀ {F : Fo} {o : Nat} (i : Nat), OwnKids false P W F b o → i < lenF F →
    (∀ j v, o ≤ j → (j < o + i * 3 ∨ o + i * 3 + 3 ≤ j) → W.cell? ⟨b, j, none⟩ = some v → W'.cell? ⟨b, j, none⟩ = some v) → Node W' b (o + i * 3) t'.1 a' c' t'.2 → OwnKids false Q W' (setF i F t') b o
  | .nil, _, i, _, hi, _, _ => absurd hi (by simp [lenF])
  | .node _ _ x l r, o, 0, ⟨_, hr⟩, _, hc, hn => by
    refine ⟨⟨a', c', by simpa using hn.name, by simpa using hn.sym, by simpa using hn.list, hT.sizes, hT.list⟩, ?_⟩
    exact OwnKids.kids_in hPQ hk hr (fun j v hj hv => hc j v (by omega) (.inr (by omega)) hv)
  | .node _ _ x l r, o, i + 1, ⟨⟨a, c, c0, c1, c2, hs, hl⟩, hr⟩, hi, hc, hn => by
    have e : o + 3 + i * 3 = o + (i + 1) * 3 := by omega
    refine ⟨⟨a, c, hc _ _ (Nat.le_refl _) (.inl (by omega)) c0, hc _ _ (by omega) (.inl (by omega)) c1, hc _ _ (by omega) (.inl (by omega)) c2, hs, ?_⟩, OwnKids.replace hPQ hk hT i hr (by simp only [lenF] at hi; omega) (fun j v hj hor hv => hc j v (by omega) (by omega) hv) (by rw [e]; exact hn)⟩
    rcases hl with h | ⟨g, cur, ha, hg, hcur, hm, hkk⟩
    · exact .inl h
    · have hgg := hk g hg (Array.getElem?_eq_some_iff.1 hcur).1
      exact .inr ⟨g, cur, ha, hPQ g hg, hgg.trans hcur, (fun e => by cases e), (hkk.keep hk hgg).mono (fun k _ h => hPQ k h)⟩

/-- What is stored where a path leads makes the term that the path says. -/
theorem put_stored {W W2 : World} {u : Tn} {ua : Option Addr} {uc : Nat} {A3 : Nat → Prop} : ∀ (ps : List Int) {A : Nat → Prop} {b o : Nat} {t : Tn} {a : Option Addr} {c b' o' : Nat},
    SepTm W A t.1 a c t.2 → Node W b o t.1 a c t.2 → ¬ A b → (∃ cur, W.heap[b]? = some (Obj.cells cur 27 (0, 0))) → Leads W ps b o t b' o' →
    (A b' ∨ (b' = b ∧ o' = o)) ∧ (∃ cur, W.heap[b']? = some (Obj.cells cur 27 (0, 0))) ∧ ((∀ k, (A k ∨ k = b) → k < W.heap.size → k ≠ b' → W2.heap[k]? = W.heap[k]?) → (∀ j v, (j < o' ∨ o' + 3 ≤ j) → W.cell? ⟨b', j, none⟩ = some v → W2.cell? ⟨b', j, none⟩ = some v) →
      (∃ cur, W2.heap[b']? = some (Obj.cells cur 27 (0, 0))) → Node W2 b' o' u.1 ua uc u.2 → SepTm W2 A3 u.1 ua uc u.2 → (∀ k, A3 k → ¬ A k) →
      ∃ t' a' c', putT u ps t = some t' ∧ Node W2 b o t'.1 a' c' t'.2 ∧ SepTm W2 (fun k => A k ∨ A3 k) t'.1 a' c' t'.2)
  | [], A, b, o, t, a, c, b', o', hS, hN, hb, hrow, ⟨h1, h2⟩ => by
    subst h1 h2
    exact ⟨.inr ⟨rfl, rfl⟩, hrow, fun _ _ _ hn hs _ => ⟨u, ua, uc, rfl, hn, hs.mono (fun k hk => .inr hk)⟩⟩
  | i :: ps, A, b, o, t, a, c, b', o', hS, hN, hb, _, ⟨k, g, q, c2, u1, hi, hk, hu, hcell, hL⟩ => by
    have hcell' := hN.list
    rw [hcell] at hcell'
    simp only [Option.some.injEq, Value.slice.injEq, true_and] at hcell'
    obtain ⟨rfl, rfl⟩ := hcell'
    rcases hS.list with hnil | ⟨g', cur, hg', hAg, hcur, hkids⟩
    · rw [hnil] at hk; simp [lenF] at hk
    · cases hg'
      obtain ⟨t1, a1, c1, A1, hA1, ht1, hn1, hs1, hrep⟩ := hkids.replace k hk
      rw [hu] at ht1
      cases ht1
      have hA1g : ¬ A1 g := fun h => (hA1 g h).2 rfl
      obtain ⟨hwhere, hrow', hgo⟩ := put_stored ps hs1 hn1 hA1g ⟨cur, hcur⟩ hL
      have hAb : A b' := hwhere.elim (fun h => (hA1 _ h).1) (fun h => by rw [h.1]; exact hAg)
      refine ⟨.inl hAb, hrow', fun hW hC hblk hn hs hd => ?_⟩
      have hb'b : b ≠ b' := fun e => hb (e ▸ hAb)
      have hblt : b < W.heap.size := World.block_lt_of_cell? W _ hN.name
      have hbb := hW b (.inr rfl) hblt hb'b
      obtain ⟨t1', a1', c1', hp, hn1', hs1'⟩ := hgo (fun k' hk' hlt hne => hW k' (.inl (hk'.elim (fun h => (hA1 _ h).1) (fun h => by rw [h]; exact hAg))) hlt hne) hC hblk hn hs (fun k' h h' => hd k' h (hA1 k' h').1)
      have hsame : ∀ k', (A k' ∧ k' ≠ g) → ¬ A1 k' → k' < W.heap.size → W2.heap[k']? = W.heap[k']? := fun k' h h' hlt => hW k' (.inl h.1) hlt (fun e => by
        rcases hwhere with h2 | h2
        · exact h' (e ▸ h2)
        · exact h.2 (e.trans h2.1))
      have hcells : ∀ j v, 0 ≤ j → (j < 0 + k * 3 ∨ 0 + k * 3 + 3 ≤ j) → W.cell? ⟨g, j, none⟩ = some v → W2.cell? ⟨g, j, none⟩ = some v := fun j v _ hj hv => by
        by_cases e : g = b'
        · rcases hwhere with h2 | h2
          · rw [← e] at h2; exact absurd h2 hA1g
          · have := hC j v (by rw [h2.2]; exact hj)
            rw [← e] at this
            exact this hv
        · exact (World.cell?_of_block (hW g (.inl hAg) (Array.getElem?_eq_some_iff.1 hcur).1 e)).trans hv
      have hnew := hrep W2 t1' a1' c1' A3 (fun k' h h' => hd k' h h'.1) hsame hcells hn1' hs1'
      have hgb : ∃ cur, W2.heap[g]? = some (Obj.cells cur 27 (0, 0)) := by
        by_cases e : g = b'
        · rw [e]; exact hblk
        · exact ⟨cur, (hW g (.inl hAg) (Array.getElem?_eq_some_iff.1 hcur).1 e).trans hcur⟩
      obtain ⟨cur', hcur'⟩ := hgb
      refine ⟨(t.1, setF k t.2 t1'), some ⟨g, 0, none⟩, c2, ?_, ⟨(World.cell?_of_block hbb).trans hN.name, (World.cell?_of_block hbb).trans hN.sym, ?_⟩, ?_, .inr ⟨g, cur', rfl, .inl hAg, hcur', hnew.mono (fun k' h => ?_)⟩⟩
      · rw [putT, hi, kidT_is hk hu]
        simp only [hp, Int.toNat_natCast]
      · simp only [len_set]; exact (World.cell?_of_block hbb).trans hN.list
      · simp only [len_set]; exact hS.sizes
      · rcases h with h | h
        · exact ⟨.inl h.1, h.2⟩
        · exact ⟨.inr h, fun e => hd k' h (e ▸ hAg)⟩
end Go.Proofs.YtgidgmgpgfonnaaGreat
/- Tables of terms by names: what look answers. -/
namespace Go.Proofs.YtgidgmgpgfonnaaGreat
open Go.RowKit Go.Deep

theorem alloc_below0 (W : World) (o : Obj) : Below W.heap.size W (W.alloc o) := (Below.refl _ W).alloc (Nat.le_refl _) o
theorem hid {p : Prop} (h : p) : Hid p := h
def tmV (x : ByteArray × Int) (a : Option Addr) (n c : Nat) : Value := .agg #[.string x.1, .int .i64 x.2, .slice a n c]
/-- A table reads as a function. -/
structure TabAt (W : World) (b n : Nat) (lk : ByteArray → Option Tn) : Prop where
  ex : ∃ D, MapAt W b n D ∧ ∀ s, match lk s with | none => lookD D s = none | some t => ∃ a c, lookD D s = some (tmV t.1 a (lenF t.2) c) ∧ TmAt W t.1 a c t.2
def TabV (W : World) (mv : Value) (lk : ByteArray → Option Tn) : Prop := (mv = .map none ∧ ∀ s, lk s = none) ∨ ∃ b n, mv = .map (some b) ∧ TabAt W b n lk
theorem MapAt.below {W W' : World} {b n : Nat} {D : DataW Value} (h : MapAt W b n D) (hb : Below W.heap.size W W') : MapAt W' b n D :=
  h.kept (row := none) ⟨hb.os, hb.tape, hb.output, hb.size, fun k hk _ => hb.block k hk⟩ (by simp)
theorem TabAt.below {W W' : World} {b n : Nat} {lk : ByteArray → Option Tn} (h : TabAt W b n lk) (hb : Below W.heap.size W W') : TabAt W' b n lk := by
  obtain ⟨D, hD, hl⟩ := h.ex
  refine ⟨D, hD.below hb, fun s => ?_⟩
  have := hl s
  cases hs : lk s with
  | none => rw [hs] at this; exact this
  | some t =>
    rw [hs] at this
    obtain ⟨a, c, h1, h2⟩ := this
    exact ⟨a, c, h1, h2.below hb⟩
theorem TabV.below {W W' : World} {mv : Value} {lk : ByteArray → Option Tn} (h : TabV W mv lk) (hb : Below W.heap.size W W') : TabV W' mv lk :=
  h.imp id fun ⟨b, n, h1, h2⟩ => ⟨b, n, h1, h2.below hb⟩
theorem TabV.none (W : World) : TabV W (.map none) fun _ => none := .inl ⟨rfl, fun _ => rfl⟩
theorem tab_run {w : World} {mv : Value} {lk : ByteArray → Option Tn} (h : TabV w mv lk) (s : ByteArray) (hs : s.size ≤ maxLen) :
    (lk s = none ∧ ∀ W, Below w.heap.size w W → (Instr.lookup 55 mv (.string s) true).run Tryz.prog W = .ok (.tuple #[.agg #[.string ⟨#[]⟩, .int .i64 0, .slice none 0 0], .bool false]) W) ∨
    ∃ t a c, lk s = some t ∧ TmAt w t.1 a c t.2 ∧ ∀ W, Below w.heap.size w W → (Instr.lookup 55 mv (.string s) true).run Tryz.prog W = .ok (.tuple #[.agg #[.string t.1.1, .int .i64 t.1.2, .slice a (lenF t.2) c], .bool true]) W := by
  rcases h with ⟨rfl, hn⟩ | ⟨b, n, rfl, ⟨D, hD, hl⟩⟩
  · exact .inl ⟨hn s, fun W _ => nil_run W s hs⟩
  · have h1 := hl s
    cases hk : lk s with
    | none =>
      rw [hk] at h1
      refine .inl ⟨rfl, fun W hb => ?_⟩
      have := look_run (hD.below hb) s hs
      rw [show lookD D s = Option.none from h1] at this
      exact this
    | some t =>
      rw [hk] at h1
      obtain ⟨a, c, h2, h3⟩ := h1
      refine .inr ⟨t, a, c, rfl, h3, fun W hb => ?_⟩
      have := look_run (hD.below hb) s hs
      rw [h2] at this
      exact this
def lkN (lk : ByteArray → Option Tn) (s : ByteArray) : Option Tn := if noName s = true then none else lk s
theorem results_ct {fn : Func} {p u : Tmp} {P : Program} {tmps : Array Value} {w : World} {B : Nat} {x y z : Value} (h : fn.results = #[.cell p 27, .tmp u]) (hp : tmps.getD p undef = .pointer (some ⟨B, 0, none⟩)) (hl : (loadVar 27 ⟨B, 0, none⟩).run P w = .ok (.agg #[x, y, z]) w) :
    (results fn tmps).run P w = .ok (.tuple #[.agg #[x, y, z], tmps.getD u undef]) w := by
  have e : (results fn tmps).run P w = ((asAddr (tmps.getD p undef)).run P w).andThen fun q w₁ => ((loadVar 27 q).run P w₁).andThen fun y w₂ => .ok (.tuple #[y, tmps.getD u undef]) w₂ := by
    simp only [results, h]
    simp [Sem.run_bind, Result.andThen]
  rw [e, hp, show (asAddr (.pointer (some ⟨B, 0, none⟩))).run P w = .ok ⟨B, 0, none⟩ w from rfl]
  simp only [Result.andThen_ok, hl]
theorem load27 {W : World} {B : Nat} {x : ByteArray × Int} {a : Option Addr} {n c : Nat} (h : TBox W B x a n c) : (loadVar 27 ⟨B, 0, none⟩).run Tryz.prog W = .ok (.agg #[.string x.1, .int .i64 x.2, .slice a n c]) W := by
  have c0 := h.c0; have c1 := h.c1; have c2 := h.c2
  simp [go_sem, loadVar, c0, c1, c2]
theorem box2 (w : World) (o1 o3 : Obj) (x : ByteArray × Int) (a : Option Addr) (n c : Nat) : TBox (((w.alloc o1).alloc (.cells #[.string x.1, .int .i64 x.2, .slice a n c] 27)).alloc o3) (w.heap.size + 1) x a n c := by
  have h := TBox.new (w.alloc o1) x a n c
  rw [World.size_alloc] at h
  exact h.below (alloc_below0 _ _)
theorem below3 (w : World) (o1 o2 o3 : Obj) : Below w.heap.size w (((w.alloc o1).alloc o2).alloc o3) := by
  have b1 := alloc_below0 w o1
  have b2 := alloc_below0 (w.alloc o1) o2
  have b3 := alloc_below0 ((w.alloc o1).alloc o2) o3
  exact (b1.trans (b2.mono b1.size)).trans (b3.mono (Nat.le_trans b1.size b2.size))
set_option maxRecDepth 100000 in
set_option maxHeartbeats 1000000 in
theorem look_any (mv : Value) (lk : ByteArray → Option Tn) (x : ByteArray × Int) (a : Option Addr) (n c : Nat) (w : World) (hT : TabV w mv lk) (hs : x.1.size ≤ maxLen) :
    Calls Tryz.prog 74 #[mv, .agg #[.string x.1, .int .i64 x.2, .slice a n c]] w fun e w' => Below w.heap.size w w' ∧
      ((lkN lk x.1 = none ∧ e = .returned (.tuple #[.agg #[.string ⟨#[]⟩, .int .i64 0, .slice none 0 0], .bool false])) ∨ ∃ t a' c', lkN lk x.1 = some t ∧ TmAt w t.1 a' c' t.2 ∧ e = .returned (.tuple #[.agg #[.string t.1.1, .int .i64 t.1.2, .slice a' (lenF t.2) c'], .bool true])) := by
  have b1 := alloc_below0 w (.cells #[.string x.1, .int .i64 x.2, .slice a n c] 27)
  have b2 := alloc_below0 (w.alloc (.cells #[.string x.1, .int .i64 x.2, .slice a n c] 27)) (.cells #[.string ⟨#[]⟩, .int .i64 0, .slice none 0 0] 27)
  have n2 := World.alloc_heap_new (w.alloc (.cells #[.string x.1, .int .i64 x.2, .slice a n c] 27)) (.cells #[.string ⟨#[]⟩, .int .i64 0, .slice none 0 0] 27)
  have hB := b1.trans (b2.mono b1.size)
  rw [World.size_alloc] at n2
  have HB := hid hB; have HN2 := hid n2
  unfold lkN
  cases hnm : noName x.1 with
  | true =>
    have hnm' : x.1.toList.isEmpty = true := hnm
    clear b1 b2 hB n2
    go_enter Tryz.func74, Tryz.ntmps74
    go_wp2_with fail
    exact bodyPost_ret (results_ct rfl rfl (load27 (x := (⟨#[]⟩, 0)) HN2.out)) rfl ⟨HB.out, rfl⟩
  | false =>
    have hnm' : x.1.toList.isEmpty = false := hnm
    rcases tab_run hT x.1 hs with ⟨hk, hr⟩ | ⟨t, a', c', hk, ht, hr⟩
    · have hrun := hr _ hB
      clear b1 b2 hB n2 hr
      go_enter Tryz.func74, Tryz.ntmps74
      go_wp2_with fail
      exact bodyPost_ret (results_ct rfl rfl (load27 (box2 w _ _ (⟨#[]⟩, 0) none 0 0))) rfl ⟨below3 _ _ _ _, rfl⟩
    · have hrun := hr _ hB
      clear b1 b2 hB n2 hr
      go_enter Tryz.func74, Tryz.ntmps74
      go_wp2_with fail
      exact bodyPost_ret (results_ct rfl rfl (load27 (box2 w _ _ t.1 a' (lenF t.2) c'))) rfl ⟨below3 _ _ _ _, a', c', ht, rfl⟩
end Go.Proofs.YtgidgmgpgfonnaaGreat
/- What left and fits of a table answer. -/
namespace Go.Proofs.YtgidgmgpgfonnaaGreat
open Go.RowKit Go.Deep

def left0F : Fo → Int → Int
  | .nil, r => r
  | .node _ _ _ l s, r => if r < 0 then r else left0F s (left0F l (r - 1))
/-- What is left of the room for nodes behind these terms, in which others stand for variables. -/
def leftF (lk : ByteArray → Option Tn) : Fo → Int → Int
  | .nil, r => r
  | .node _ _ x l s, r => if r < 0 then r else leftF lk s (match lkN lk x.1 with | some t => left0F t.2 (r - 1) | none => leftF lk l (r - 1))
def leftN (lk : ByteArray → Option Tn) (x : ByteArray × Int) (l : Fo) (r : Int) : Int := match lkN lk x.1 with | some t => left0F t.2 (r - 1) | none => leftF lk l (r - 1)
theorem lkN_none (s : ByteArray) : lkN (fun _ => none) s = none := by unfold lkN; split <;> rfl
theorem leftF_none : ∀ (F : Fo) (r : Int), leftF (fun _ => none) F r = left0F F r
  | .nil, _ => rfl
  | .node _ _ x l s, r => by
    unfold leftF left0F
    rw [lkN_none]
    simp only [leftF_none l, leftF_none s]
theorem left0F_bd : ∀ (F : Fo) (r : Int), -1 ≤ r → -1 ≤ left0F F r ∧ left0F F r ≤ r
  | .nil, r, h => ⟨h, Int.le_refl _⟩
  | .node _ _ x l s, r, h => by
    unfold left0F
    split
    · omega
    · have h1 := left0F_bd l (r - 1) (by omega)
      have h2 := left0F_bd s (left0F l (r - 1)) h1.1
      omega
theorem leftF_bd (lk : ByteArray → Option Tn) : ∀ (F : Fo) (r : Int), -1 ≤ r → -1 ≤ leftF lk F r ∧ leftF lk F r ≤ r
  | .nil, r, h => ⟨h, Int.le_refl _⟩
  | .node _ _ x l s, r, h => by
    unfold leftF
    split
    · omega
    · have h1 : -1 ≤ (match lkN lk x.1 with | some t => left0F t.2 (r - 1) | none => leftF lk l (r - 1)) ∧ (match lkN lk x.1 with | some t => left0F t.2 (r - 1) | none => leftF lk l (r - 1)) ≤ r - 1 := by
        cases lkN lk x.1 with
        | none => exact leftF_bd lk l (r - 1) (by omega)
        | some t => exact left0F_bd t.2 (r - 1) (by omega)
      have h2 := leftF_bd lk s _ h1.1
      omega
theorem leftF_neg (lk : ByteArray → Option Tn) (F : Fo) (r : Int) (h : r < 0) : leftF lk F r = r := by
  cases F with
  | nil => rfl
  | node => unfold leftF; rw [if_pos h]
def LeftOk (lk : ByteArray → Option Tn) (k : Nat) : Prop := ∀ (x : ByteArray × Int) (l : Fo) (a : Option Addr) (c : Nat) (mv : Value) (room : Int) (w : World), nodesF l ≤ k → TmAt w x a c l → TabV w mv lk → 0 ≤ room → room ≤ 400 →
  Calls Tryz.prog 62 #[mv, .agg #[.string x.1, .int .i64 x.2, .slice a (lenF l) c], .int .i64 room] w fun e w' => e = .returned (.int .i64 (leftN lk x l room)) ∧ Below w.heap.size w w'

set_option maxRecDepth 100000 in
set_option maxHeartbeats 1000000 in
theorem left_step (lk : ByteArray → Option Tn) (h0 : ∀ s t, lk s = some t → ∀ k, LeftOk (fun _ => none) k) : ∀ k, LeftOk lk k := by
  intro k
  induction k using Nat.strongRecOn with
  | _ k ih =>
    intro x l a c mv room w hk hT hM hr0 hr4
    have HT := hid hT
    have HM := hid hM
    have IH : Hid (∀ j, j < k → LeftOk lk j) := ih
    have O0 := hid (One.new w x a (lenF l) c)
    have HLK := hid (look_any mv lk x a (lenF l) c (w.alloc (.cells #[.string x.1, .int .i64 x.2, .slice a (lenF l) c] 27)) (hM.below (alloc_below0 _ _)) hT.sizes.name)
    have H0 := hid h0
    have hn := len_nodes l
    have hln : lenF l ≤ 2932031007402 := by have := hT.sizes.few; omega
    clear hT hM ih h0
    have t0 := O0.out.t.c0; have t1 := O0.out.t.c1; have t2 := O0.out.t.c2
    go_enter Tryz.func62, Tryz.ntmps62
    go_wp2_with fail
    refine HLK.out.mono ?_
    rintro e w1 ⟨hb1, hres⟩
    have O1 := hid (O0.out.below hb1)
    rcases hres with ⟨hk0, rfl⟩ | ⟨t, a', c', hk1, hT1, rfl⟩
    · have hN : leftN lk x l room = leftF lk l (room - 1) := by unfold leftN; rw [hk0]
      have HN := hid hN
      clear t0 t1 t2 HLK hk0 hN
      have O2 := hid (O1.out.below (alloc_below0 w1 (.cells #[.string ⟨#[]⟩, .int .i64 0, .slice none 0 0] 27)))
      have t2 := O2.out.t.c2
      go_wp2_with fail
      generalize w1.alloc (.cells #[.string ⟨#[]⟩, .int .i64 0, .slice none 0 0] 27) = V at O2 t2 ⊢
      go_loopw [2, 26] (fun rv iv wr => ∃ (j : Nat) (r : Int), j ≤ lenF l ∧ rv = .int .i64 r ∧ iv = .int .i64 j ∧ -1 ≤ r ∧ r ≤ 400 ∧ One w x a (lenF l) c wr ∧ leftF lk (dropF j l) r = leftF lk l (room - 1)) (fun _ iv _ => lenF l - (intOf iv).toNat)
      case atStart => exact ⟨0, room - 1, Nat.zero_le _, rfl, rfl, by omega, by omega, O2.out, by rw [drop_zero]⟩
      case round =>
        obtain ⟨j, r, hj, rfl, rfl, hr1, hr2, hO, hm⟩ := hrel
        by_cases hlt : j < lenF l
        · obtain ⟨b1, o1, rfl, hk1⟩ := HT.out.args.get (by omega)
          obtain ⟨z, a1, c1, l1, kd⟩ := hk1.kid (k := j) hlt
          have kd' := kd.below hO.low
          obtain ⟨B1, O1', s1⟩ := kd.split
          rw [s1] at hm
          have p0 := kd'.name; have p1 := kd'.sym; have p2 := kd'.list
          by_cases hr : r < 0
          · rw [leftF_neg lk _ r hr] at hm
            clear t2 kd kd' s1 hk1
            have HO := hid hO
            clear hO
            go_wp2_with fail
            go_ret
            exact ⟨by rw [HN.out, ← hm] <;> rfl, HO.out.low.trans ((alloc_below0 _ _).mono HO.out.low.size)⟩
          · have hC := hid (IH.out (nodesF l1) (by have := kd.less; omega) z l1 a1 c1 mv r)
            have HO := hid hO
            have HZ := hid kd'.at_
            have HBZ := hid (HM.out.below hO.low)
            have b3 := alloc_below0 wr (.cells #[.string z.1, .int .i64 z.2, .slice a1 (lenF l1) c1] 27)
            have HC := hid (hC.out _ (Nat.le_refl _) (HZ.out.below b3) (HBZ.out.below b3) (by omega) hr2)
            have HO3 := hid (HO.out.below b3)
            have hstep : leftF lk (dropF (j + 1) l) (leftN lk z l1 r) = leftF lk l (room - 1) := by
              rw [← hm]
              conv => rhs; unfold leftF
              rw [if_neg hr]
              rfl
            have HS := hid hstep
            have hbd : -1 ≤ leftN lk z l1 r ∧ leftN lk z l1 r ≤ 400 := by
              unfold leftN
              cases lkN lk z.1 with
              | none => exact ⟨(leftF_bd lk l1 (r - 1) (by omega)).1, Int.le_trans (leftF_bd lk l1 (r - 1) (by omega)).2 (by omega)⟩
              | some t => exact ⟨(left0F_bd t.2 (r - 1) (by omega)).1, Int.le_trans (left0F_bd t.2 (r - 1) (by omega)).2 (by omega)⟩
            clear t2 kd kd' s1 hk1 hO hC b3 hstep
            go_wp2_with fail
            refine HC.out.mono ?_
            rintro e w3 ⟨rfl, hb3⟩
            have HO4 := hid (HO3.out.below hb3)
            clear hb3 p0 p1 p2
            go_wp2_with fail
            go_roundw
            case rel => exact ⟨j + 1, leftN lk z l1 r, by omega, rfl, by go_num, hbd.1, hbd.2, HO4.out, HS.out⟩
            case measure => simp [intOf]; omega
        · have e1 : j = lenF l := by omega
          rw [e1, drop_end] at hm
          have hm' : r = leftF lk l (room - 1) := hm
          clear t2
          go_wp2
          go_ret
          exact ⟨by rw [HN.out, hm'] <;> rfl, hO.low⟩
    · have hC := hid (H0.out x.1 t (by unfold lkN at hk1; split at hk1; cases hk1; exact hk1) (nodesF t.2))
      have b3 := alloc_below0 w1 (.cells #[.string t.1.1, .int .i64 t.1.2, .slice a' (lenF t.2) c'] 27)
      have hl1 := O1.out.low
      have HC := hid (hC.out t.1 t.2 a' c' (.map none) room _ (Nat.le_refl _) ((hT1.below hb1).below b3) (TabV.none _) hr0 hr4)
      have HL := hid (hl1.trans (b3.mono hl1.size))
      have hN : leftN lk x l room = leftN (fun _ => none) t.1 t.2 room := by
        unfold leftN
        rw [hk1, lkN_none]
        exact (leftF_none _ _).symm
      have HN := hid hN
      clear t0 t1 t2 HLK hC b3 hl1 hN
      go_wp2_with fail
      refine HC.out.mono ?_
      rintro e w3 ⟨rfl, hb3⟩
      have HL3 := hid (HL.out.trans (hb3.mono HL.out.size))
      clear hb3
      go_wp2_with fail
      go_ret
      exact ⟨by rw [HN.out] <;> rfl, HL3.out⟩
theorem left_none (k : Nat) : LeftOk (fun _ => none) k := left_step _ (fun _ _ h => by cases h) k
theorem left_any (lk : ByteArray → Option Tn) (k : Nat) : LeftOk lk k := left_step lk (fun _ _ _ => left_none) k
end Go.Proofs.YtgidgmgpgfonnaaGreat
/- What fits and tableOf answer. -/
namespace Go.Proofs.YtgidgmgpgfonnaaGreat
open Go.RowKit Go.Deep

set_option maxRecDepth 100000 in
theorem fits_any (mv : Value) (lk : ByteArray → Option Tn) (x : ByteArray × Int) (l : Fo) (a : Option Addr) (c : Nat) (w : World) (hT : TmAt w x a c l) (hM : TabV w mv lk) :
    Calls Tryz.prog 40 #[mv, .agg #[.string x.1, .int .i64 x.2, .slice a (lenF l) c]] w fun e w' => e = .returned (.bool (decide (0 ≤ leftN lk x l 400))) ∧ Below w.heap.size w w' := by
  have O0 := hid (One.new w x a (lenF l) c)
  have b1 := alloc_below0 w (.cells #[.string x.1, .int .i64 x.2, .slice a (lenF l) c] 27)
  have HC := hid (left_any lk (nodesF l) x l a c mv 400 _ (Nat.le_refl _) (hT.below b1) (hM.below b1) (by omega) (by omega))
  have B1 := hid b1
  have t0 := O0.out.t.c0; have t1 := O0.out.t.c1; have t2 := O0.out.t.c2
  clear hT hM b1
  go_enter Tryz.func40, Tryz.ntmps40
  go_wp2_with fail
  refine HC.out.mono ?_
  rintro e w1 ⟨rfl, hb⟩
  have HL := hid (B1.out.trans (hb.mono B1.out.size))
  clear hb HC
  go_wp2_with fail
  go_ret
  exact ⟨rfl, HL.out⟩
abbrev Bn := ByteArray × Tn
/-- A bind's cells. -/
structure BdAt (w : World) (b o : Nat) (x : Bn) (a : Option Addr) (c : Nat) : Prop where
  var : w.cell? ⟨b, o, none⟩ = some (.string x.1)
  name : w.cell? ⟨b, o + 1, none⟩ = some (.string x.2.1.1)
  sym : w.cell? ⟨b, o + 2, none⟩ = some (.int .i64 x.2.1.2)
  list : w.cell? ⟨b, o + 3, none⟩ = some (.slice a (lenF x.2.2) c)
  tm : TmAt w x.2.1 a c x.2.2
theorem bd_cell {w w' : World} (hb : Below w.heap.size w w') : ∀ p v, w.cell? p = some v → w'.cell? p = some v := fun p v h => by
  rw [hb.cell (World.block_lt_of_cell? w p h)]; exact h
theorem BdAt.below {w w' : World} {b o : Nat} {x : Bn} {a : Option Addr} {c : Nat} (h : BdAt w b o x a c) (hb : Below w.heap.size w w') : BdAt w' b o x a c :=
  ⟨bd_cell hb _ _ h.var, bd_cell hb _ _ h.name, bd_cell hb _ _ h.sym, bd_cell hb _ _ h.list, h.tm.below hb⟩
/-- The slice with this address and length holds these binds. -/
structure BindsAt (w : World) (p : Option Addr) (n : Nat) (l : List Bn) : Prop where
  len : n = l.length
  small : n ≤ maxLen
  cells : ∀ i (h : i < l.length), ∃ b off a c, p = some ⟨b, off, none⟩ ∧ BdAt w b (off + i * 4) l[i] a c
  fits : ∀ x ∈ l, x.1.size ≤ maxLen
theorem BindsAt.below {w w' : World} {p : Option Addr} {n : Nat} {l : List Bn} (h : BindsAt w p n l) (hb : Below w.heap.size w w') : BindsAt w' p n l :=
  ⟨h.len, h.small, fun i hi => let ⟨b, off, a, c, h1, h2⟩ := h.cells i hi; ⟨b, off, a, c, h1, h2.below hb⟩, h.fits⟩
/-- What stands for a name: the last bind's term. -/
def lkB (l : List Bn) : ByteArray → Option Tn := l.foldl (fun lk b s => if s = b.1 then some b.2 else lk s) (fun _ => none)
theorem lkB_snoc (l : List Bn) (x : Bn) : lkB (l ++ [x]) = fun s => if s = x.1 then some x.2 else lkB l s := by unfold lkB; rw [List.foldl_append]; rfl
theorem lkB_take (l : List Bn) (i : Nat) (h : i < l.length) : lkB (l.take (i + 1)) = fun s => if s = l[i].1 then some l[i].2 else lkB (l.take i) s := by rw [List.take_succ_eq_append_getElem h, lkB_snoc]
/-- A table stays a table behind a store. -/
theorem TabAt.put {W : World} {b n : Nat} {lk : ByteArray → Option Tn} (h : TabAt W b n lk) (hn : n < maxLen) (s : ByteArray) (hs : s.size ≤ maxLen) (t : Tn) (a : Option Addr) (c : Nat) (ht : TmAt W t.1 a c t.2) :
    ∃ W', (Instr.mapUpdate 55 (.map (some b)) (.string s) (.agg #[.string t.1.1, .int .i64 t.1.2, .slice a (lenF t.2) c])).run Tryz.prog W = .ok () W' ∧ TabAt W' b (n + 1) (fun s' => if s' = s then some t else lk s') ∧ W.grownBy W' (some b) := by
  obtain ⟨D, hD, hl⟩ := h.ex
  have hM := hD.isMap
  obtain ⟨W', h1, h2, h3⟩ := put_run hD hn s hs (.agg #[.string t.1.1, .int .i64 t.1.2, .slice a (lenF t.2) c])
  have hk : ∀ p v, W.cell? p = some v → W'.cell? p = some v := fun p v hv => by
    obtain ⟨es, clock, hb, _⟩ := hD
    have hne : p.block ≠ b := fun e => by
      simp only [World.cell?, e, hb] at hv
      cases hv
    have hlt := World.block_lt_of_cell? W p hv
    have hsame : W'.heap[p.block]? = W.heap[p.block]? := h3.block _ hlt (fun e => hne (Option.some.inj e))
    simp only [World.cell?, hsame] at hv ⊢
    exact hv
  refine ⟨W', h1, ⟨_, h2, fun s' => ?_⟩, h3⟩
  by_cases e : s' = s
  · simp only [if_pos e]
    exact ⟨a, c, by rw [look_put hM, if_pos e]; rfl, ht.kept hk⟩
  · simp only [if_neg e]
    have h4 := hl s'
    rw [look_put hM, if_neg e]
    cases hs' : lk s' with
    | none => rw [hs'] at h4; exact h4
    | some t' =>
      rw [hs'] at h4
      obtain ⟨a', c', h5, h6⟩ := h4
      exact ⟨a', c', h5, h6.kept hk⟩
theorem map_low {w W W' : World} (hl : Below w.heap.size w W) (hg : W.grownBy W' (some w.heap.size)) : Below w.heap.size w W' := hl.trans ⟨hg.os, hg.tape, hg.output, hg.size, fun k hk => hg.block k (Nat.lt_of_lt_of_le hk hl.size) (fun e => by have := Option.some.inj e; omega)⟩
set_option maxRecDepth 100000 in
set_option maxHeartbeats 1000000 in
/-- tableOf. -/
theorem table_any (p : Option Addr) (cap : Nat) (bs : List Bn) (w : World) (hB : BindsAt w p bs.length bs) (hn : bs.length ≤ 1048576) :
    Calls Tryz.prog 26 #[.slice p bs.length cap] w fun e w' => e = .returned (.map (some w.heap.size)) ∧ TabAt w' w.heap.size bs.length (lkB bs) ∧ Below w.heap.size w w' := by
  have hmk := make_run w (bs.length : Int)
  have HM := hid (map_made w)
  have HL := hid (alloc_below0 w (.map #[] 0))
  have HB := hid hB
  clear hB
  go_enter Tryz.func26, Tryz.ntmps26
  go_wp2_with fail
  clear hmk
  generalize w.alloc (.map #[] 0) = V at HM HL ⊢
  go_loopw [11] (fun iv wr => ∃ i : Nat, i ≤ bs.length ∧ iv = .int .i64 i ∧ TabAt wr w.heap.size i (lkB (bs.take i)) ∧ Below w.heap.size w wr) (fun iv _ => bs.length - (intOf iv).toNat)
  case atStart => exact ⟨0, Nat.zero_le _, rfl, ⟨_, HM.out, fun s => rfl⟩, HL.out⟩
  case round =>
    obtain ⟨i, hi, rfl, htab, hlow⟩ := hrel
    by_cases hlt : i < bs.length
    · obtain ⟨b1, o1, a1, c1, rfl, hbd⟩ := (HB.out.below hlow).cells i hlt
      have hfit := HB.out.fits bs[i] (List.getElem_mem hlt)
      have hlk := lkB_take bs i hlt
      obtain ⟨⟨vn, ⟨x, l⟩⟩, hy⟩ : ∃ y, bs[i] = y := ⟨_, rfl⟩
      rw [hy] at hbd hfit hlk
      have p0 := hbd.var; have p1 := hbd.name; have p2 := hbd.sym; have p3 := hbd.list
      dsimp only at p0 p1 p2 p3 hfit hlk
      have bx := alloc_below0 wr (.cells #[.string vn, .string x.1, .int .i64 x.2, .slice a1 (lenF l) c1] 43)
      obtain ⟨W', hrun, htab', hgr⟩ := (htab.below bx).put (by unfold maxLen; omega) vn hfit (x, l) a1 c1 (hbd.tm.below bx)
      have HT' := hid htab'; have HG := hid (map_low (hlow.trans (bx.mono hlow.size)) hgr); have HLK := hid hlk
      clear hbd htab htab' hgr hlk hy bx
      go_wp2_with fail
      refine ⟨⟨i + 1, by omega, rfl, ?_, HG.out⟩, by simp [intOf]; omega⟩
      rw [HLK.out]
      exact HT'.out
    · have he : i = bs.length := by omega
      have ht : bs.take i = bs := List.take_of_length_le (by omega)
      rw [ht, he] at htab
      go_wp2
      go_ret
      exact ⟨rfl, htab, hlow⟩
end Go.Proofs.YtgidgmgpgfonnaaGreat
