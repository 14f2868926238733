import Derived.StillTailTactics
import Derived.Test.YtfnfbljijkjkjaaTHas
import Derived.Test.YtfnfbljijkjkjaaTSize
import Derived.Deep.RegionLaw
import Derived.Deep.AppendLies
import Derived.Laws.EntriesVeiled
import Derived.RangeFuncNested
import Derived.RangeFuncBound
import Derived.RangeFuncCalls
import Derived.RangeFuncLeaves
import Derived.Shelf.Abstract
import Derived.Shelf.RegionOpen
import Derived.OwnWalkIn
import Derived.TacticsInMore
import Derived.LoopNIn
import Derived.LoopIn
import Derived.OrdersIn
import Derived.OrdersHeld
import Derived.Deep.RegionHeld
import Derived.Maps.AppendAt
import Derived.Lib.AppendZeros
import Derived.Laws.AppendOwnNone
import Derived.Lib.SmallJoins
import Derived.Test.YtfnfbljijkjkjaaKSoA
/- What the statements' plain answers. -/
namespace Go.Proofs.Ytfnfbljijkjkjaa
open Go.RowKit Go.Deep

def isC (l : List Sym) (t : Tn) : Bool := exN (canonT (sgOf l) t).1 t.1 (canonT (sgOf l) t).2 t.2
def plainB (l : List Sym) (A B : Tn) : Bool := (rightB l A && rightB l B) && (isC (l.map plainS) A && isC (l.map plainS) B)

set_option maxRecDepth 100000 in
set_option maxHeartbeats 4000000 in
theorem plain_any (S : Option Addr) (n cap : Nat) (sg : List Sym) (s t : Tn) (a b : Option Addr) (c d : Nat) (w : World) (hG : SigAt w S n sg) (hS : TmAt w s.1 a c s.2) (hT : TmAt w t.1 b d t.2) (hM : nodesF s.2 ≤ 1048576) (hN : nodesF t.2 ≤ 1048576) (hn : n ≤ 1048576) :
    Calls Try.prog 10 #[.slice S n cap, .agg #[.string s.1.1, .int .i64 s.1.2, .slice a (lenF s.2) c, .string t.1.1, .int .i64 t.1.2, .slice b (lenF t.2) d]] w fun e w' => e = .returned (.bool (plainB sg s t)) ∧ Below w.heap.size w w' := by
  obtain ⟨⟨xn, xs⟩, l⟩ := s
  obtain ⟨⟨yn, ys⟩, m⟩ := t
  dsimp only at *
  have HB0 := hid (alloc_below0 w (.cells #[.string xn, .int .i64 xs, .slice a (lenF l) c, .string yn, .int .i64 ys, .slice b (lenF m) d] 28))
  have HX := hid (Box.new w 28 #[.string xn, .int .i64 xs, .slice a (lenF l) c, .string yn, .int .i64 ys, .slice b (lenF m) d])
  have H1 := hid fun (W : World) (hW : Below w.heap.size w W) => rright_any S n cap sg ((xn, xs), l) a c W (hG.below hW) (hS.below hW)
  have H2 := hid fun (W : World) (hW : Below w.heap.size w W) => rright_any S n cap sg ((yn, ys), m) b d W (hG.below hW) (hT.below hW)
  have H3 := hid fun (W : World) (hW : Below w.heap.size w W) => rplain_any S n cap sg W (hG.below hW) (by omega)
  have H4 := hid fun (W : World) (a' : Option Addr) (cap' : Nat) (hW : Below w.heap.size w W) (h : SigAt W a' n (sg.map plainS)) => is_any a' n cap' (sg.map plainS) ((xn, xs), l) a c W h (hS.below hW) hM
  have H5 := hid fun (W : World) (a' : Option Addr) (cap' : Nat) (hW : Below w.heap.size w W) (h : SigAt W a' n (sg.map plainS)) => is_any a' n cap' (sg.map plainS) ((yn, ys), m) b d W h (hT.below hW) hN
  obtain ⟨r1, h1⟩ : ∃ r1, rightB sg ((xn, xs), l) = r1 := ⟨_, rfl⟩
  obtain ⟨r2, h2⟩ : ∃ r2, rightB sg ((yn, ys), m) = r2 := ⟨_, rfl⟩
  obtain ⟨r3, h3⟩ : ∃ r3, isC (sg.map plainS) ((xn, xs), l) = r3 := ⟨_, rfl⟩
  obtain ⟨r4, h4⟩ : ∃ r4, isC (sg.map plainS) ((yn, ys), m) = r4 := ⟨_, rfl⟩
  unfold plainB
  rw [h1, h2, h3, h4]
  unfold isC at h3 h4
  rw [h1] at H1
  rw [h2] at H2
  simp only [h3] at H4
  simp only [h4] at H5
  clear hG hS hT h1 h2 h3 h4
  dsimp only at *
  cases r1 <;> cases r2 <;> cases r3 <;> cases r4
  all_goals
    go_enter Try.func10, Try.ntmps10
    go_wp2_with (first
      | (go_at_call 22; (with_reducible refine (H2.out _ HB1.out).mono ?_); rintro e w2 ⟨rfl, hb2⟩; have HB2 := hid (HB1.out.trans (hb2.mono HB1.out.size)); have X2 := HX1.out.below hb2; have HX2 := hid X2; have z0 := X2.c 0; have z1 := X2.c 1; have z2 := X2.c 2; have z3 := X2.c 3; have z4 := X2.c 4; have z5 := X2.c 5; clear hb2 X2)
      | (go_at_call 22; (with_reducible refine (H1.out _ HB0.out).mono ?_); rintro e w1 ⟨rfl, hb1⟩; have HB1 := hid (HB0.out.trans (hb1.mono HB0.out.size)); have X1 := HX.out.below hb1; have HX1 := hid X1; have y3 := X1.c 3; have y4 := X1.c 4; have y5 := X1.c 5; clear hb1 X1)
      | (go_at_call 23; (with_reducible refine (H3.out _ HB2.out).mono ?_); rintro e w3 ⟨a', cap', rfl, hsg, hb3⟩; have HSG := hid hsg; have HB3 := hid (HB2.out.trans (hb3.mono HB2.out.size)); have X3 := HX2.out.below hb3; have HX3 := hid X3; have q0 := X3.c 0; have q1 := X3.c 1; have q2 := X3.c 2; clear hb3 X3 hsg)
      | (go_at_call 24; (with_reducible refine (H5.out _ _ _ HB4.out HSG4.out).mono ?_); rintro e w5 ⟨rfl, hb5⟩; have HB5 := hid (HB4.out.trans (hb5.mono HB4.out.size)); clear hb5)
      | (go_at_call 24; (with_reducible refine (H4.out _ _ _ HB3.out HSG.out).mono ?_); rintro e w4 ⟨rfl, hb4⟩; have HB4 := hid (HB3.out.trans (hb4.mono HB3.out.size)); have HSG4 := hid (HSG.out.below hb4); have X4 := HX3.out.below hb4; have v3 := X4.c 3; have v4 := X4.c 4; have v5 := X4.c 5; clear hb4 X4))
    go_ret
    first
      | exact ⟨rfl, HB5.out⟩
      | exact ⟨rfl, HB2.out⟩
end Go.Proofs.Ytfnfbljijkjkjaa
/- Whichever side stands first, the same is done, plainly; and the walk of StepTurned, but for its head. -/
namespace Go.Proofs.Ytfnfbljijkjkjaa
open Go.RowKit Go.Deep

def swapP (p : Tn × Tn) : Tn × Tn := (p.2, p.1)
def turnW (V : Wy) : Wy := { V with ls := V.ls.map swapP }
theorem bytes_one : ∀ a b : List UInt8, Lib.compareBytes a b = -1 ∨ Lib.compareBytes a b = 0 ∨ Lib.compareBytes a b = 1
  | [], [] => .inr (.inl rfl)
  | [], _ :: _ => .inl rfl
  | _ :: _, [] => .inr (.inr rfl)
  | a :: as', b :: bs => by
    rw [Lib.compareBytes]
    split
    · exact .inl rfl
    · split
      · exact .inr (.inr rfl)
      · exact bytes_one as' bs
theorem zip_swap : ∀ l m : List Tn, (l.zip m).map swapP = m.zip l
  | [], [] => rfl
  | [], _ :: _ => rfl
  | _ :: _, [] => rfl
  | x :: l, y :: m => by simp only [List.zip_cons_cons, List.map_cons, zip_swap l m]; rfl
theorem ofVars_turn {l r : Tn} (hl : noName l.1.1 = false) (hr : noName r.1.1 = false) : ofVarsP l r = ofVarsP r l := by
  have e1 : cmpN l r = cmpS l.1.1 r.1.1 := by unfold cmpN cmp1; rw [if_pos hl, if_pos hr]
  have e2 := cmpN_anti l r
  unfold ofVarsP
  rw [e2]
  rcases bytes_one l.1.1.data.toList r.1.1.data.toList with h | h | h
  · have h' : cmpN l r = -1 := e1.trans h
    rw [h']; rfl
  · have h' : cmpN l r = 0 := e1.trans h
    rw [h']; rfl
  · have h' : cmpN l r = 1 := e1.trans h
    rw [h']; rfl
theorem turn_none {V : Wy} (h : V.ls = []) : turnW V = V := by
  obtain ⟨a, b, c, d, e⟩ := V
  dsimp only at h
  subst h; rfl
theorem look_turn (sg : List Sym) (l r : Tn) : turnW (lookP sg r l) = lookP sg l r := by
  unfold lookP
  by_cases hl : noName l.1.1 = false <;> by_cases hr : noName r.1.1 = false
  · rw [if_pos hr, if_pos hl, if_pos hl, if_pos hr, turn_none (ofVars_none _ _), ofVars_turn hr hl]
  · rw [if_neg hr, if_pos hl, if_pos hl, if_neg hr, turn_none (ofVar_none _ _)]
  · rw [if_pos hr, if_neg hl, if_neg hl, if_pos hr, turn_none (ofVar_none _ _)]
  · rw [if_neg hr, if_neg hl, if_neg hl, if_neg hr]
    by_cases hs : l.1.2 = r.1.2
    · rw [if_pos hs.symm, if_pos hs, hs]
      split
      · unfold sideP
        by_cases hn : lenF l.2 = lenF r.2
        · rw [if_pos hn, if_pos hn.symm]
          unfold turnW
          dsimp only
          rw [zip_swap]
        · rw [if_neg hn, if_neg (fun h => hn h.symm)]
          exact turn_none rfl
      · exact turn_none rfl
    · rw [if_neg (fun h => hs h.symm), if_neg hs]
      exact turn_none rfl
theorem one_turn (sg : List Sym) (l r : Tn) : turnW (oneP sg r l) = oneP sg l r := by
  unfold oneP
  rw [cmpN_anti l r]
  by_cases h : cmpN l r = 0
  · rw [if_pos h, if_pos (by omega)]; exact turn_none rfl
  · rw [if_neg h, if_neg (by omega)]; exact look_turn sg l r

/-- The program is there. -/
def HeadOk : Prop := ∀ w : World, Calls Try.prog 6 #[] w fun e w' => e = .returned (.bool true) ∧ Below w.heap.size w w'

/-- How far the second answer's equations are turned. -/
structure TuSt (wa : World) (base g n : Nat) (tk : Kv) (ks : List Kv) (ls : List (Tn × Tn)) (j : Nat) (ds : List Kv) (W : World) : Prop where
  low : Below wa.heap.size wa W
  row : EqRow W g n (ds ++ ks.drop (2 * j))
  len : ds.length = 2 * j
  tn : ds.map Kv.tn = flatL ((ls.take j).map swapP)
  mem : ∀ k ∈ ds, k ∈ ks
  sep : SepL W (tk :: ks) (fun q => base ≤ q ∧ q ≠ g)
theorem TuSt.below {wa : World} {base g n : Nat} {tk : Kv} {ks : List Kv} {ls : List (Tn × Tn)} {j : Nat} {ds : List Kv} {W W' : World} (h : TuSt wa base g n tk ks ls j ds W) (hb : Below W.heap.size W W') : TuSt wa base g n tk ks ls j ds W' :=
  ⟨h.low.trans (hb.mono h.low.size), h.row.below hb, h.len, h.tn, h.mem, h.sep.keep (fun q _ hq => hb.block q hq)⟩
theorem TuSt.drew {wa : World} {base g n : Nat} {tk : Kv} {ks : List Kv} {ls : List (Tn × Tn)} {j : Nat} {ds : List Kv} {W : World} (h : TuSt wa base g n tk ks ls j ds W) : TuSt wa base g n tk ks ls j ds W.drew := h.below (Below.refl _ W).drew
theorem tu_step {wa : World} {base g n : Nat} {tk : Kv} {ks : List Kv} {ls : List (Tn × Tn)} {j : Nat} {ds : List Kv} {W : World} {k1 k2 : Kv} (h : TuSt wa base g n tk ks ls j ds W) (hg : wa.heap.size ≤ g) (hj : j < n) (hn : ls.length = n) (hk : ks.map Kv.tn = flatL ls) (hd : ks.drop (2 * j) = k1 :: k2 :: ks.drop (2 * (j + 1))) :
    TuSt wa base g n tk ks ls (j + 1) (ds ++ [k2, k1]) (set6 W g (j * 6) k2 k1) := by
  have hfar : ∀ q, q ≠ g → (set6 W g (j * 6) k2 k1).heap[q]? = W.heap[q]? := fun q hq => set6_far hq _ _ _
  have hbl := set6_below h.low hg (j * 6) k2 k1
  have hrow : EqRow (set6 W g (j * 6) k2 k1) g n (ds ++ [k2, k1] ++ ks.drop (2 * (j + 1))) := by
    have h3 := h.row
    rw [hd, show ds ++ k1 :: k2 :: ks.drop (2 * (j + 1)) = ds ++ [k1, k2] ++ ks.drop (2 * (j + 1)) by simp] at h3
    exact h3.put (by rw [h.len]; omega) (by omega) k2 k1
  generalize set6 W g (j * 6) k2 k1 = V at hfar hbl hrow ⊢
  have hm : ∀ k ∈ ks.drop (2 * j), k ∈ ks := fun k hk => List.mem_of_mem_drop hk
  rw [hd] at hm
  obtain ⟨f1, f2⟩ := flat_at ls j (by omega)
  rw [← hk, List.getElem?_map] at f1 f2
  have g1 : ks[2 * j]? = some k1 := by have := congrArg (·[0]?) hd; simpa using this
  have g2 : ks[2 * j + 1]? = some k2 := by have := congrArg (·[1]?) hd; simpa using this
  rw [g1, Option.map_some, Option.some.injEq] at f1
  rw [g2, Option.map_some, Option.some.injEq] at f2
  refine ⟨hbl, hrow, by rw [List.length_append, h.len]; simp only [List.length_cons, List.length_nil]; omega, ?_, fun k hk => ?_, h.sep.keep (fun q hq _ => hfar q hq.2)⟩
  · rw [List.map_append, h.tn, List.take_succ_eq_append_getElem (by omega), List.map_append]
    show _ = flatL (_ ++ [swapP ls[j]])
    rw [flat_snoc]
    show _ ++ [k2.tn, k1.tn] = _ ++ [ls[j].2, ls[j].1]
    rw [f1, f2]
  · rcases List.mem_append.1 hk with hk | hk
    · exact h.mem k hk
    · simp only [List.mem_cons, List.not_mem_nil, or_false] at hk
      rcases hk with rfl | rfl
      · exact hm _ (by simp)
      · exact hm _ (by simp)
theorem tu_end {wa : World} {base g n : Nat} {tk : Kv} {ks : List Kv} {V : Wy} {ds : List Kv} {W : World} {lc : Nat} (h : TuSt wa base g n tk ks V.ls n ds W) (hn : V.ls.length = n) (hl : lc = n) (hk : ks.length = 2 * n) (ht : tk.tn = V.t) :
    WyAt W (.agg (wayC V.act V.bv tk.x tk.a (lenF tk.l) tk.c (some ⟨g, 0, none⟩) n lc V.sym)) (turnW V) := by
  obtain ⟨act, bv, t, ls, sym⟩ := V
  dsimp only at *
  subst hn hl ht
  have hts := h.sep.tms
  have hrow := h.row
  rw [List.drop_of_length_le (by omega), List.append_nil] at hrow
  refine ⟨tk.a, tk.c, ds, some ⟨g, 0, none⟩, ls.length, ?_, hts tk (by simp), ?_, fun k hk => hts k (by simp [h.mem k hk]), .inr ⟨g, rfl, fun i u hu => hrow.at hu⟩, ?_⟩
  · unfold turnW; dsimp only; rw [List.length_map]; rfl
  · rw [h.tn, List.take_length]; rfl
  · unfold turnW; dsimp only; rw [List.length_map]; exact Nat.le_refl _
end Go.Proofs.Ytfnfbljijkjkjaa
/- The walk of StepTurned. -/
namespace Go.Proofs.Ytfnfbljijkjkjaa
open Go.RowKit Go.Deep

set_option maxRecDepth 100000 in
set_option maxHeartbeats 4000000 in
theorem turned_walk (hh : HeadOk) (S : Option Addr) (n cap : Nat) (sg : List Sym) (s t : Tn) (a b : Option Addr) (c d : Nat) (w : World) (hG : SigAt w S n sg) (hS : TmAt w s.1 a c s.2) (hT : TmAt w t.1 b d t.2) (hM : nodesF s.2 ≤ 1048576) (hN : nodesF t.2 ≤ 1048576) (hn : n ≤ 1048576) :
    Calls Try.prog 5 #[.slice S n cap, .agg #[.string s.1.1, .int .i64 s.1.2, .slice a (lenF s.2) c, .string t.1.1, .int .i64 t.1.2, .slice b (lenF t.2) d]] w fun e w' => e = .returned (.bool true) ∧ Below w.heap.size w w' := by
  have hl1 := lookP_len sg t s
  have hln := len_nodes t.2
  have hlen : (oneP sg t s).ls.length ≤ 1048576 := by
    unfold oneP
    split
    · simp [actW]
    · omega
  have hturn := one_turn sg s t
  obtain ⟨⟨xn, xs⟩, l⟩ := s
  obtain ⟨⟨yn, ys⟩, m⟩ := t
  dsimp only at *
  have HB0 := hid (alloc_below0 w (.cells #[.string xn, .int .i64 xs, .slice a (lenF l) c, .string yn, .int .i64 ys, .slice b (lenF m) d] 28))
  have HX := hid (Box.new w 28 #[.string xn, .int .i64 xs, .slice a (lenF l) c, .string yn, .int .i64 ys, .slice b (lenF m) d])
  have H6 := hid hh
  have H10 := hid fun (W : World) (hW : Below w.heap.size w W) => plain_any S n cap sg ((xn, xs), l) ((yn, ys), m) a b c d W (hG.below hW) (hS.below hW) (hT.below hW) hM hN hn
  have H8 := hid fun (W : World) (hW : Below w.heap.size w W) => one_any S n cap sg ((xn, xs), l) ((yn, ys), m) a b c d W (hG.below hW) (hS.below hW) (hT.below hW) hM hN
  have H8' := hid fun (W : World) (hW : Below w.heap.size w W) => one_any S n cap sg ((yn, ys), m) ((xn, xs), l) b a d c W (hG.below hW) (hT.below hW) (hS.below hW) hN hM
  obtain ⟨pb, hpb⟩ : ∃ pb, plainB sg ((xn, xs), l) ((yn, ys), m) = pb := ⟨_, rfl⟩
  obtain ⟨Va, hVa⟩ : ∃ Va, oneP sg ((xn, xs), l) ((yn, ys), m) = Va := ⟨_, rfl⟩
  obtain ⟨Vb, hVb⟩ : ∃ Vb, oneP sg ((yn, ys), m) ((xn, xs), l) = Vb := ⟨_, rfl⟩
  rw [hpb] at H10
  simp only [hVa] at H8
  simp only [hVb] at H8'
  rw [hVa, hVb] at hturn
  rw [hVb] at hlen
  have HTU := hid hturn
  clear hh hG hS hT hpb hVa hVb hl1 hln hturn
  dsimp only at *
  cases pb
  · go_enter Try.func5, Try.ntmps5
    go_wp2_with (first
      | (go_at_call 6; refine (H6.out _).mono ?_; rintro e w1 ⟨rfl, hb1⟩; have HB1 := hid (HB0.out.trans (hb1.mono HB0.out.size)); have X1 := HX.out.below hb1; have z0 := X1.c 0; have z1 := X1.c 1; have z2 := X1.c 2; have z3 := X1.c 3; have z4 := X1.c 4; have z5 := X1.c 5; clear hb1 X1)
      | (go_at_call 10; refine (H10.out _ HB1.out).mono ?_; rintro e w2 ⟨rfl, hb2⟩; have HB2 := hid (HB1.out.trans (hb2.mono HB1.out.size)); clear hb2))
    go_ret
    exact ⟨rfl, HB2.out⟩
  · go_enter Try.func5, Try.ntmps5
    go_wp2_with (first
      | (go_at_call 6; refine (H6.out _).mono ?_; rintro e w1 ⟨rfl, hb1⟩; have HB1 := hid (HB0.out.trans (hb1.mono HB0.out.size)); have X1 := HX.out.below hb1; have HX1 := hid X1; have z0 := X1.c 0; have z1 := X1.c 1; have z2 := X1.c 2; have z3 := X1.c 3; have z4 := X1.c 4; have z5 := X1.c 5; clear hb1 X1)
      | (go_at_call 10; refine (H10.out _ HB1.out).mono ?_; rintro e w2 ⟨rfl, hb2⟩; have HB2 := hid (HB1.out.trans (hb2.mono HB1.out.size)); have X2 := HX1.out.below hb2; have HX2 := hid X2; have y0 := X2.c 0; have y1 := X2.c 1; have y2 := X2.c 2; have y3 := X2.c 3; have y4 := X2.c 4; have y5 := X2.c 5; clear hb2 X2 z0 z1 z2 z3 z4 z5)
      | (go_at_call 8; (with_reducible refine (H8'.out _ HB3.out).mono ?_); rintro e w4 ⟨⟨vb, rfl, hob⟩, hb4⟩; have HOB := hid hob; have HB34 := hid hb4; obtain ⟨tk, ks, lb, lcb, rfl, htk, hks, hrow, hsep⟩ := HOB.out.is; have HTK := hid htk; have HKS := hid hks; have HROW := hid hrow; have HSEP := hid hsep; clear hob hb4 htk hks hrow hsep; unfold wayC)
      | (go_at_call 8; (with_reducible refine (H8.out _ HB2.out).mono ?_); rintro e w3 ⟨⟨va, rfl, hoa⟩, hb3⟩; have HOA := hid hoa.wy; have hbx := alloc_below0 w3 (.cells #[.int .i64 0] 36); obtain ⟨ta, tc, kva, lla, lca, rfl, hra⟩ := HOA.out.is; have hb3' : Below w2.heap.size w2 (w3.alloc (.cells (wayC Va.act Va.bv Va.t.1 ta (lenF Va.t.2) tc lla Va.ls.length lca Va.sym) 36)) := hb3.trans ((alloc_below0 w3 _).mono hb3.size); have HB3 := hid (HB2.out.trans (hb3'.mono HB2.out.size)); have HBA := hid (Box.new w3 36 (wayC Va.act Va.bv Va.t.1 ta (lenF Va.t.2) tc lla Va.ls.length lca Va.sym)); have HOA2 := hid (HOA.out.below (alloc_below0 w3 (.cells (wayC Va.act Va.bv Va.t.1 ta (lenF Va.t.2) tc lla Va.ls.length lca Va.sym) 36))); have X3 := HX2.out.below hb3'; have v0 := X3.c 0; have v1 := X3.c 1; have v2 := X3.c 2; have v3 := X3.c 3; have v4 := X3.c 4; have v5 := X3.c 5; clear hb3 hb3' X3 hoa hbx hra y0 y1 y2 y3 y4 y5; unfold wayC at *))
    have HSA : Hid ((w3.alloc (.cells #[.int .i64 Va.act, .string Va.bv, .string Va.t.1.1, .int .i64 Va.t.1.2, .slice ta (lenF Va.t.2) tc, .slice lla Va.ls.length lca, .int .i64 Va.sym] 36)).heap.size = w3.heap.size + 1) := hid (by simp)
    generalize w3.alloc (.cells #[.int .i64 Va.act, .string Va.bv, .string Va.t.1.1, .int .i64 Va.t.1.2, .slice ta (lenF Va.t.2) tc, .slice lla Va.ls.length lca, .int .i64 Va.sym] 36) = A3 at HB3 HBA HOA2 HOB HB34 HROW HSEP HSA
    clear v0 v1 v2 v3 v4 v5 HOA HX HX1 HX2 HB0 HB1 HB2 H6 H8 H8' H10
    have hbb := alloc_below0 w4 (.cells #[.int .i64 Vb.act, .string Vb.bv, .string tk.x.1, .int .i64 tk.x.2, .slice tk.a (lenF tk.l) tk.c, .slice lb Vb.ls.length lcb, .int .i64 Vb.sym] 36)
    have hBB := Box.new w4 36 #[.int .i64 Vb.act, .string Vb.bv, .string tk.x.1, .int .i64 tk.x.2, .slice tk.a (lenF tk.l) tk.c, .slice lb Vb.ls.length lcb, .int .i64 Vb.sym]
    have HBB := hid hbb; have HBOX := hid hBB
    obtain ⟨nb, hnb⟩ : ∃ nb, Vb.ls.length = nb := ⟨_, rfl⟩
    have hkl : ks.length = 2 * nb := by
      have := congrArg List.length HKS.out
      rw [List.length_map, flat_len, hnb] at this
      exact this
    rw [hnb] at hlen HROW HBB HBOX HOB ⊢
    have HNB := hid hnb; have HKL := hid hkl
    clear hbb hBB hnb hkl
    rcases HROW.out with ⟨h0, rfl, rfl⟩ | ⟨g, rfl, hgb, rfl, hge⟩
    · subst h0
      have HVB : Hid (Vb.ls = []) := hid (List.length_eq_zero_iff.1 HNB.out)
      have hbe := (HBOX.out.c 5)
      go_loopw [9] (fun i wr => i = .int .i64 0 ∧ wr = w4.alloc (.cells #[.int .i64 Vb.act, .string Vb.bv, .string tk.x.1, .int .i64 tk.x.2, .slice tk.a (lenF tk.l) tk.c, .slice none 0 0, .int .i64 Vb.sym] 36)) (fun _ _ => 0)
      case atStart => exact ⟨rfl, rfl⟩
      case round =>
        obtain ⟨rfl, rfl⟩ := hrel
        have hA := hid (HBA.out.below (HB34.out.trans (HBB.out.mono HB34.out.size)))
        have a0 := hA.out.c 0; have a1 := hA.out.c 1; have a2 := hA.out.c 2; have a3 := hA.out.c 3; have a4 := hA.out.c 4; have a5 := hA.out.c 5; have a6 := hA.out.c 6
        have HSM := hid (same_true Va _ _ _ (HOA2.out.below (HB34.out.trans (HBB.out.mono HB34.out.size))) (by
          have h := (HOB.out.wy).below HBB.out
          rw [← HTU.out, turn_none HVB.out]
          exact h) (by rw [← HTU.out, turn_none HVB.out, HVB.out]; simp))
        have HBE := hid ((HB3.out.trans (HB34.out.mono HB3.out.size)).trans (HBB.out.mono (HB3.out.trans (HB34.out.mono HB3.out.size)).size))
        clear hbe
        go_wp2_with (go_at_call 11; refine HSM.out.mono ?_; rintro e w5 ⟨rfl, hb5⟩; have HB5 := hid (HBE.out.trans (hb5.mono HBE.out.size)); clear hb5)
        go_ret
        exact ⟨rfl, HB5.out⟩
    · have HGE := hid hge
      have hTU0 : TuSt A3 A3.heap.size g lcb tk ks Vb.ls 0 [] (w4.alloc (.cells #[.int .i64 Vb.act, .string Vb.bv, .string tk.x.1, .int .i64 tk.x.2, .slice tk.a (lenF tk.l) tk.c, .slice (some ⟨g, 0, none⟩) lcb lcb, .int .i64 Vb.sym] 36)) :=
        TuSt.below (W := w4) ⟨HB34.out, by rw [List.nil_append, Nat.mul_zero, List.drop_zero]; exact hge, rfl, rfl, by simp, HSEP.out.mono (fun q hq => ⟨hq.1, fun e => hq.2.2 (by rw [e])⟩)⟩ HBB.out
      have HT0 := hid hTU0
      have HGW : Hid (g < w4.heap.size) := hid hge.lt
      clear hTU0 hge
      go_loopw [9] (fun i wr => ∃ (j : Nat) (ds : List Kv), j ≤ lcb ∧ i = .int .i64 j ∧ TuSt A3 A3.heap.size g lcb tk ks Vb.ls j ds wr ∧ Box wr w4.heap.size 36 #[.int .i64 Vb.act, .string Vb.bv, .string tk.x.1, .int .i64 tk.x.2, .slice tk.a (lenF tk.l) tk.c, .slice (some ⟨g, 0, none⟩) lcb lcb, .int .i64 Vb.sym]) (fun i _ => lcb - (intOf i).toNat)
      case atStart => exact ⟨0, [], Nat.zero_le _, rfl, HT0.out, HBOX.out⟩
      case round =>
        obtain ⟨j, ds, hj, rfl, ht, hbx⟩ := hrel
        have HTS := hid ht; have HBX := hid hbx
        have x5 : wr.cell? ⟨w4.heap.size, 5, none⟩ = some (.slice (some ⟨g, 0, none⟩) lcb lcb) := hbx.c 5
        by_cases hlt : j < lcb
        · obtain ⟨k1, k2, hd⟩ : ∃ k1 k2, ks.drop (2 * j) = k1 :: k2 :: ks.drop (2 * (j + 1)) := ⟨ks[2 * j]'(by have := HKL.out; omega), ks[2 * j + 1]'(by have := HKL.out; omega), by
            rw [List.drop_eq_getElem_cons (by have := HKL.out; omega), List.drop_eq_getElem_cons (by have := HKL.out; omega)]; rfl⟩
          have hge := ht.row
          have HNX := hid (tu_step ht hgb hlt HNB.out HKS.out hd).drew
          rw [hd] at hge
          have p0 : wr.cell? ⟨g, j * 6, none⟩ = some (.string k1.x.1) := hge.at (mid_cell _ _ _ _ j 0 ht.len)
          have p1 : wr.cell? ⟨g, j * 6 + 1, none⟩ = some (.int .i64 k1.x.2) := hge.at (mid_cell _ _ _ _ j 1 ht.len)
          have p2 : wr.cell? ⟨g, j * 6 + 2, none⟩ = some (.slice k1.a (lenF k1.l) k1.c) := hge.at (mid_cell _ _ _ _ j 2 ht.len)
          have p3 : wr.cell? ⟨g, j * 6 + 3, none⟩ = some (.string k2.x.1) := hge.at (mid_cell _ _ _ _ j 3 ht.len)
          have p4 : wr.cell? ⟨g, j * 6 + 4, none⟩ = some (.int .i64 k2.x.2) := hge.at (mid_cell _ _ _ _ j 4 ht.len)
          have p5 : wr.cell? ⟨g, j * 6 + 5, none⟩ = some (.slice k2.a (lenF k2.l) k2.c) := hge.at (mid_cell _ _ _ _ j 5 ht.len)
          obtain ⟨⟨x1n, x1s⟩, l1, a1, c1⟩ := k1
          obtain ⟨⟨x2n, x2s⟩, l2, a2, c2⟩ := k2
          dsimp only at p0 p1 p2 p3 p4 p5
          have q0 : wr.drew.cell? ⟨g, j * 6, none⟩ = _ := p0
          have q1 : wr.drew.cell? ⟨g, j * 6 + 1, none⟩ = _ := p1
          have q2 : wr.drew.cell? ⟨g, j * 6 + 2, none⟩ = _ := p2
          have q3 : wr.drew.cell? ⟨g, j * 6 + 3, none⟩ = _ := p3
          have q4 : wr.drew.cell? ⟨g, j * 6 + 4, none⟩ = _ := p4
          have q5 : wr.drew.cell? ⟨g, j * 6 + 5, none⟩ = _ := p5
          have x6 : wr.drew.cell? ⟨w4.heap.size, 5, none⟩ = _ := x5
          have e0 := hge.frozen (j * 6); have e1 := hge.frozen (j * 6 + 1); have e2 := hge.frozen (j * 6 + 2); have e3 := hge.frozen (j * 6 + 3); have e4 := hge.frozen (j * 6 + 4); have e5 := hge.frozen (j * 6 + 5)
          have f0 : wr.drew.frozen? ⟨g, j * 6, none⟩ = false := e0
          have f1 : wr.drew.frozen? ⟨g, j * 6 + 1, none⟩ = false := e1
          have f2 : wr.drew.frozen? ⟨g, j * 6 + 2, none⟩ = false := e2
          have f3 : wr.drew.frozen? ⟨g, j * 6 + 3, none⟩ = false := e3
          have f4 : wr.drew.frozen? ⟨g, j * 6 + 4, none⟩ = false := e4
          have f5 : wr.drew.frozen? ⟨g, j * 6 + 5, none⟩ = false := e5
          have hk0 : (0 : Int) ≤ (j : Int) := by omega
          have hkn : (j : Int) < (lcb : Int) := by omega
          have HBX2 : Hid (Box (set6 wr g (j * 6) ⟨(x2n, x2s), l2, a2, c2⟩ ⟨(x1n, x1s), l1, a1, c1⟩) w4.heap.size 36 #[.int .i64 Vb.act, .string Vb.bv, .string tk.x.1, .int .i64 tk.x.2, .slice tk.a (lenF tk.l) tk.c, .slice (some ⟨g, 0, none⟩) lcb lcb, .int .i64 Vb.sym]) := hid ((set6_far (by have := HGW.out; omega) _ _ _).trans hbx)
          have HBX3 := hid HBX2.out.drew
          clear ht hbx hge hd HT0
          go_upto_region 10 with fail
          go_still_tail 16, (by kernel_rfl)
          go_wp2_with fail
          go_roundw
          case rel => exact ⟨j + 1, ds ++ [(⟨(x2n, x2s), l2, a2, c2⟩ : Kv), ⟨(x1n, x1s), l1, a1, c1⟩], by omega, by go_num, HNX.out, HBX3.out⟩
          case measure => simp [intOf]; omega
        · have e1 : j = lcb := by omega
          subst e1
          have hA := hid ((ht.low.block _ HBA.out.lt).trans HBA.out)
          have a0 := Box.c hA.out 0; have a1 := Box.c hA.out 1; have a2 := Box.c hA.out 2; have a3 := Box.c hA.out 3; have a4 := Box.c hA.out 4; have a5 := Box.c hA.out 5; have a6 := Box.c hA.out 6
          have b0 := hbx.c 0; have b1 := hbx.c 1; have b2 := hbx.c 2; have b3 := hbx.c 3; have b4 := hbx.c 4; have b5 := hbx.c 5; have b6 := hbx.c 6
          have hend := tu_end ht HNB.out rfl HKL.out HTK.out
          rw [HTU.out] at hend
          have HSM := hid (same_true Va _ _ _ (HOA2.out.below ht.low) hend (by rw [← HTU.out]; show (Vb.ls.map swapP).length ≤ _; rw [List.length_map, HNB.out]; exact hlen))
          have HBE := hid (HB3.out.trans (ht.low.mono HB3.out.size))
          clear ht hbx hend
          unfold wayC at *
          go_wp2_with (go_at_call 11; refine HSM.out.mono ?_; rintro e w5 ⟨rfl, hb5⟩; have HB5 := hid (HBE.out.trans (hb5.mono HBE.out.size)); clear hb5)
          go_ret
          exact ⟨rfl, HB5.out⟩
end Go.Proofs.Ytfnfbljijkjkjaa
/- The signature of the examples; Size of the program. -/
namespace Go.Proofs.Ytfnfbljijkjkjaa
open Go.RowKit Go.Deep

def bA : ByteArray := ⟨#[97]⟩
def bOne : ByteArray := ⟨#[111, 110, 101]⟩
def bF : ByteArray := ⟨#[102]⟩
def bPlus : ByteArray := ⟨#[112, 108, 117, 115]⟩
def bTimes : ByteArray := ⟨#[116, 105, 109, 101, 115]⟩
def bX : ByteArray := ⟨#[88]⟩
def someL : List Sym := [⟨bA, 1, 0, ⟨#[]⟩⟩, ⟨bOne, 1, 0, ⟨#[]⟩⟩, ⟨bF, 1, 2, ⟨#[]⟩⟩, ⟨bPlus, 2, 2, ⟨#[]⟩⟩, ⟨bTimes, 3, 2, bOne⟩]

set_option maxRecDepth 100000 in
theorem some_any (w : World) : Calls Try.prog 18 #[] w fun e w' => ∃ g, e = .returned (.slice (some ⟨g, 0, none⟩) 5 5) ∧ SigAt w' (some ⟨g, 0, none⟩) 5 someL ∧ Below w.heap.size w w' := by
  go_enter Try.func18, Try.ntmps18
  go_wp2
  go_ret
  refine ⟨w.heap.size, rfl, ⟨rfl, by decide, fun i hi => ⟨w.heap.size, 0, rfl, ?_⟩, ?_⟩, (Below.refl _ w).alloc (Nat.le_refl _) _⟩
  · have hb := Box.new w 57 #[.string bA, .int .i64 1, .int .i64 0, .string ⟨#[]⟩, .string bOne, .int .i64 1, .int .i64 0, .string ⟨#[]⟩, .string bF, .int .i64 1, .int .i64 2, .string ⟨#[]⟩, .string bPlus, .int .i64 2, .int .i64 2, .string ⟨#[]⟩, .string bTimes, .int .i64 3, .int .i64 2, .string bOne]
    have hi : i < 5 := hi
    match i, hi with
    | 0, _ => exact ⟨hb.c 0, hb.c 1, hb.c 2, hb.c 3⟩
    | 1, _ => exact ⟨hb.c 4, hb.c 5, hb.c 6, hb.c 7⟩
    | 2, _ => exact ⟨hb.c 8, hb.c 9, hb.c 10, hb.c 11⟩
    | 3, _ => exact ⟨hb.c 12, hb.c 13, hb.c 14, hb.c 15⟩
    | 4, _ => exact ⟨hb.c 16, hb.c 17, hb.c 18, hb.c 19⟩
  · intro x hx
    simp only [someL, List.mem_cons, List.not_mem_nil, or_false] at hx
    rcases hx with rfl | rfl | rfl | rfl | rfl <;> exact ⟨by decide, by decide⟩

end Go.Proofs.Ytfnfbljijkjkjaa
/- Size of package terms. -/
namespace Go.Proofs.Ytfnfbljijkjkjaa
open Go.RowKit Go.Shelf Go.Deep

attribute [local go_sem] Oper.semAt_some


set_option maxRecDepth 100000 in
set_option maxHeartbeats 2000000 in
theorem size_any (x : ByteArray × Int) (l : Fo) (a : Option Addr) (c : Nat) (w : World) (hT : TmAt w x a c l) (hM : (nodesF l + 2) * 8 ≤ 140737488355328) :
    Calls Try.prog 54 #[.agg #[.string x.1, .int .i64 x.2, .slice a (lenF l) c]] w fun e w' => e = .returned (.int .i64 ((nodesF l + 1 : Nat) : Int)) ∧ Below w.heap.size w w' := by
  refine (callsIn_wide (n := 6)).1 ?_
  have h1 : 1 ≤ 6 := by omega
  refine callsIn_of_wp_marks Try.func54 rfl trivial ?_ rfl
  simp only [Try.ntmps54, List.size_toArray, List.length_cons, List.length_nil, Nat.reduceAdd, Nat.reduceSub, Array.replicate_succ, Array.replicate_zero, List.push_toArray, List.append_toArray, List.nil_append, List.cons_append]
  gi_wp2_with fail
  refine ⟨trivial, ?_⟩
  refine (callsIn_wide.2 (places_any x a (lenF l) c _)).mono ?_
  rintro e w' ⟨rfl, rfl⟩
  gi_wp2
  have bN := (Boxed.new (w.alloc (.cells #[.string x.1, .int .i64 x.2, .slice a (lenF l) c] 26)) 3 (.int .i64 0)).alloc (.cells #[.string x.1, .int .i64 x.2, .slice a (lenF l) c] 26)
  have bT := TBox.new ((w.alloc (.cells #[.string x.1, .int .i64 x.2, .slice a (lenF l) c] 26)).alloc (.cells #[.int .i64 0] 3)) x a (lenF l) c
  simp only [World.size_alloc] at bN bT
  have hB0 : Below w.heap.size w (((w.alloc (.cells #[.string x.1, .int .i64 x.2, .slice a (lenF l) c] 26)).alloc (.cells #[.int .i64 0] 3)).alloc (.cells #[.string x.1, .int .i64 x.2, .slice a (lenF l) c] 26)) := (((Below.refl _ w).alloc (Nat.le_refl _) _).alloc (by simp) _).alloc (by simp; omega) _
  have hsz : (((w.alloc (.cells #[.string x.1, .int .i64 x.2, .slice a (lenF l) c] 26)).alloc (.cells #[.int .i64 0] 3)).alloc (.cells #[.string x.1, .int .i64 x.2, .slice a (lenF l) c] 26)).heap.size = w.heap.size + 3 := by simp
  obtain ⟨W0, hW0⟩ : ∃ W0, ((w.alloc (.cells #[.string x.1, .int .i64 x.2, .slice a (lenF l) c] 26)).alloc (.cells #[.int .i64 0] 3)).alloc (.cells #[.string x.1, .int .i64 x.2, .slice a (lenF l) c] 26) = W0 := ⟨_, rfl⟩
  rw [hW0] at bN bT hB0 hsz ⊢
  clear hW0
  refine range_own (gf := 95) (lb := #[.pointer (some ⟨w.heap.size + 1 + 1, 0, none⟩)]) rfl (enters_of Try.func95 (by kernel_rfl) rfl)
    (places1_seq w W0 (nodesF l + 1) (w.heap.size + 1 + 1) x l a c hT bT hB0 (by omega)) (Below.refl _ _) (fun _ => rfl)
    (fun _ _ _ h hc => h.cl hc) (fun _ _ _ hc => Leaves.of_cl hc (by omega)) (fun _ _ _ _ h k => h.trans k)
    (fun pre W => (Boxed W (w.heap.size + 1) 3 (.int .i64 (pre.length : Int)) ∧ Below w.heap.size w W) ∧ pre.length ≤ nodesF l + 1)
    (fun _ _ _ => False)
    (fun _ _ _ h hm => ⟨⟨boxed_mv h.1.1 hm (by omega), below_mv h.1.2 hm (by omega)⟩, h.2⟩)
    (fun _ _ _ _ h _ => h) (fun _ _ h => h.2) ⟨⟨bN, hB0⟩, by simp⟩
    (fun e a' _ => a' = { tmps := #[.agg #[.string x.1, .int .i64 x.2, .slice a (lenF l) c], .pointer (some ⟨w.heap.size, 0, none⟩), .int .i64 0, .pointer (some ⟨w.heap.size + 1, 0, none⟩), .agg #[.string x.1, .int .i64 x.2, .slice a (lenF l) c], .func (.func 95) #[] #[.pointer (some ⟨w.heap.size + 1 + 1, 0, none⟩)], e.pv, .agg #[.string e.x.1, .int .i64 e.x.2, .slice e.a (lenF e.l) e.c], undef, undef, undef], defers := [] })
    (fun _ _ _ _ h _ => h) ?assign ?body ?done ?stop
  case assign =>
    rintro pre e W K _ _ hK m
    simp only [El.encs]
    gi_wp2
    exact hK _ _ (Below.refl _ _) (by simp)
  case body =>
    rintro pre e a' W _ ⟨⟨bn, hB⟩, hl⟩ hF rfl hlt m
    have cn := bn.cell
    have fn := bn.frozen
    gi_wp2
    refine ⟨(KeepsOthers.setCell _ _ _).from _, Leaves.set hF bn (by omega) (by omega) (by decide) (by decide) (by decide) (by decide) _, ⟨?_, hB.setCell (p := ⟨w.heap.size + 1, 0, none⟩) (by show _ ≤ w.heap.size + 1; omega) _⟩, by simp; omega⟩
    rw [List.length_append, List.length_singleton, Int.natCast_add]
    exact bn.set _
  case done =>
    rintro ys W hS ⟨⟨bn, hB⟩, _⟩ hK
    have cn := bn.cell
    have hl : ys.length = nodesF l + 1 := by
      have := congrArg List.length hS
      rw [List.length_map, placesT, List.length_cons, places_len] at this
      exact this
    rw [hl] at cn
    gi_wp2
    refine ⟨by simp, .inl ⟨_, _, rfl, run_takeDeferred hK, ?_⟩⟩
    exact ⟨_, results_tmp rfl _ _ _, rfl, hB.trans (below_putObj _ (by omega) _)⟩
  case stop =>
    rintro c pre W _ h _
    exact h.elim
end Go.Proofs.Ytfnfbljijkjkjaa
/- The solver at one equation: allFree of leaves, take, add, putInSides and putInBound of none. -/
namespace Go.Proofs.Ytfnfbljijkjkjaa
open Go.RowKit Go.Deep

set_option maxRecDepth 100000 in
theorem index_none (f : Value) (w : World) : Calls Try.prog 69 #[.slice none 0 0, f] w fun e w' => e = .returned (.int .i64 (-1)) ∧ w' = w := by
  go_enter Try.func69, Try.ntmps69
  go_wp2
  go_loopw [8] (fun i wr => i = .int .i64 0 ∧ wr = w) (fun _ _ => 0)
  case atStart => exact ⟨rfl, rfl⟩
  case round =>
    obtain ⟨rfl, rfl⟩ := hrel
    go_wp2
    go_ret
    exact ⟨rfl, rfl⟩
set_option maxRecDepth 100000 in
theorem contains_none (f : Value) (w : World) : Calls Try.prog 48 #[.slice none 0 0, f] w fun e w' => e = .returned (.bool false) ∧ w' = w := by
  have H := hid fun W => index_none f W
  go_enter Try.func48, Try.ntmps48
  go_wp2_with (go_at_call 69; refine (H.out _).mono ?_; rintro e w1 ⟨rfl, rfl⟩)
  go_ret
  exact ⟨rfl, rfl⟩
set_option maxRecDepth 100000 in
set_option maxHeartbeats 2000000 in
/-- A constant, or a variable. -/
theorem allFree_leaf (S : Option Addr) (n cap : Nat) (sg : List Sym) (x : ByteArray × Int) (w : World) (hG : SigAt w S n sg) (hx : noName x.1 = true → freeB sg x.2 = true) :
    Calls Try.prog 30 #[.slice S n cap, .agg #[.string x.1, .int .i64 x.2, .slice none 0 0]] w fun e w' => e = .returned (.bool true) ∧ Below w.heap.size w w' := by
  obtain ⟨xn, xs⟩ := x
  dsimp only at *
  obtain ⟨b1, b2, hb0⟩ := two_new w #[.slice S n cap] 23 #[.string xn, .int .i64 xs, .slice none 0 0] 26
  have H42 := hid fun (W : World) (hW : Below w.heap.size w W) => isFree_any S n cap sg xs W (hG.below hW)
  have H48 := hid fun (f : Value) (W : World) => contains_none f W
  have HB0 := hid hb0
  have z0 := b1.c 0; have y0 := b2.c 0; have y1 := b2.c 1; have y2 := b2.c 2
  clear hG b1 b2 hb0
  cases he : xn.toList.isEmpty
  · go_enter Try.func30, Try.ntmps30
    go_wp2_with (go_at_call 48; refine (H48.out _ _).mono ?_; rintro e w1 ⟨rfl, rfl⟩)
    go_ret
    exact ⟨rfl, HB0.out⟩
  · have hf := hx he
    rw [hf] at H42
    go_enter Try.func30, Try.ntmps30
    go_wp2_with (first
      | (go_at_call 42; refine (H42.out _ HB0.out).mono ?_; rintro e w1 ⟨rfl, rfl⟩)
      | (go_at_call 48; refine (H48.out _ _).mono ?_; rintro e w1 ⟨rfl, rfl⟩))
    go_ret
    exact ⟨rfl, HB0.out⟩

theorem Try.size28 : (Try.prog.info? 28).map (·.size) = some 6 := by kernel_rfl
theorem ret_take {fn : Func} {R : Ending → World → Prop} {a : Act} {w : World} {p u B : Nat} {cs : Array Value} (h : fn.results = #[.cell p 28, .tmp u]) (hp : a.tmps.getD p undef = .pointer (some ⟨B, 0, none⟩)) (hz : cs.size = 6)
    (hx : Box w B 28 cs) (hd : a.defers = []) (hR : R (.returned (.tuple #[.agg cs, a.tmps.getD u undef])) w) : bodyPost Try.prog fn R .ret a w := by
  refine bodyPost_ret ?_ hd hR
  rw [results_cell_tmp h, hp]
  rw [show (asAddr (.pointer (some ⟨B, 0, none⟩))).run Try.prog w = .ok ⟨B, 0, none⟩ w from rfl]
  simp only [Result.andThen_ok, run_loadVar_row w B 28 28 _ (0, 0) _ hx Try.underlying28 rfl (Try.size28.trans (by rw [hz]))]
theorem fr_alloc {A : Nat → Prop} {w W : World} (h : Fr A w W) (o : Obj) : Fr A w (W.alloc o) := h.trans (Fr.of_below (alloc_below0 W o))
theorem fr_set1 {A : Nat → Prop} {w W : World} (h : Fr A w W) {B : Nat} (hB : A B) (k : Nat) (v : Value) : Fr A w (W.setCell ⟨B, k, none⟩ v) :=
  h.trans ⟨(Below.refl _ W).setCell (p := ⟨B, k, none⟩) (Nat.zero_le _) v, fun q _ hA => Below.heap_setCell W ⟨B, k, none⟩ v q (fun e => hA (by subst e; exact hB))⟩

set_option maxRecDepth 100000 in
set_option maxHeartbeats 2000000 in
/-- take, where there is one. -/
theorem take_one (B g c : Nat) (bd : Value) (w : World) (k1 k2 : Kv) (hB : Box w B 63 #[.slice (some ⟨g, 0, none⟩) 1 c, bd]) (hc : 1 ≤ c) (hg : CellsAt w g [k1, k2]) :
    Calls Try.prog 32 #[.pointer (some ⟨B, 0, none⟩)] w fun e w' => e = .returned (.tuple #[.agg #[.string k1.x.1, .int .i64 k1.x.2, .slice k1.a (lenF k1.l) k1.c, .string k2.x.1, .int .i64 k2.x.2, .slice k2.a (lenF k2.l) k2.c], .bool true]) ∧ Box w' B 63 #[.slice (some ⟨g, 0, none⟩) 0 c, bd] ∧ Fr (fun q => q = B) w w' := by
  have c0 := hB.c 0
  have f0 := hB.f 0
  have h0 : w.cell? ⟨g, 0, none⟩ = some (.string k1.x.1) := hg 0 _ rfl
  have h1 : w.cell? ⟨g, 1, none⟩ = some (.int .i64 k1.x.2) := hg 1 _ rfl
  have h2 : w.cell? ⟨g, 2, none⟩ = some (.slice k1.a (lenF k1.l) k1.c) := hg 2 _ rfl
  have h3 : w.cell? ⟨g, 3, none⟩ = some (.string k2.x.1) := hg 3 _ rfl
  have h4 : w.cell? ⟨g, 4, none⟩ = some (.int .i64 k2.x.2) := hg 4 _ rfl
  have h5 : w.cell? ⟨g, 5, none⟩ = some (.slice k2.a (lenF k2.l) k2.c) := hg 5 _ rfl
  have HB := hid hB
  have hlt := hB.lt
  have hgl : g < w.heap.size := World.block_lt_of_cell? w ⟨g, 0, none⟩ h0
  clear hB hg
  go_enter Try.func32, Try.ntmps32
  go_wp2_with fail
  have hS : Box (w.setCell ⟨B, 0, none⟩ (.slice (some ⟨g, 0, none⟩) 0 c)) B 63 #[.slice (some ⟨g, 0, none⟩) 0 c, bd] := HB.out.set 0 _
  have hz : (w.setCell ⟨B, 0, none⟩ (.slice (some ⟨g, 0, none⟩) 0 c)).heap.size = w.heap.size := by simp
  have hF : Fr (fun q => q = B) w (w.setCell ⟨B, 0, none⟩ (.slice (some ⟨g, 0, none⟩) 0 c)) := fr_set1 (A := fun q => q = B) (Fr.refl _ w) rfl 0 _
  refine ret_take (p := 2) (u := 3) (B := w.heap.size) (cs := #[.string k1.x.1, .int .i64 k1.x.2, .slice k1.a (lenF k1.l) k1.c, .string k2.x.1, .int .i64 k2.x.2, .slice k2.a (lenF k2.l) k2.c]) rfl rfl rfl ((box_new hz 28 _).over _) rfl ?_
  exact ⟨rfl, (hS.over _).over _, fr_alloc (fr_alloc hF _) _⟩

set_option maxRecDepth 100000 in
set_option maxHeartbeats 2000000 in
/-- take, where there is none. -/
theorem take_none (B c : Nat) (p : Option Addr) (bd : Value) (w : World) (hB : Box w B 63 #[.slice p 0 c, bd]) :
    Calls Try.prog 32 #[.pointer (some ⟨B, 0, none⟩)] w fun e w' => e = .returned (.tuple #[.agg #[.string ⟨#[]⟩, .int .i64 0, .slice none 0 0, .string ⟨#[]⟩, .int .i64 0, .slice none 0 0], .bool false]) ∧ Below w.heap.size w w' := by
  have c0 := hB.c 0
  have hlt := hB.lt
  clear hB
  go_enter Try.func32, Try.ntmps32
  go_wp2_with fail
  refine ret_take (p := 2) (u := 3) (B := w.heap.size) (cs := #[.string ⟨#[]⟩, .int .i64 0, .slice none 0 0, .string ⟨#[]⟩, .int .i64 0, .slice none 0 0]) rfl rfl rfl (Box.new w 28 _) rfl ?_
  exact ⟨rfl, alloc_below0 w _⟩

set_option maxRecDepth 100000 in
set_option maxHeartbeats 2000000 in
theorem sides_none (B c : Nat) (p : Option Addr) (bd pt : Value) (w : World) (hB : Box w B 63 #[.slice p 0 c, bd]) :
    Calls Try.prog 55 #[.pointer (some ⟨B, 0, none⟩), pt] w fun e w' => e = .returned (.bool true) ∧ w' = w := by
  have c0 := hB.c 0
  clear hB
  go_enter Try.func55, Try.ntmps55
  go_wp2_with fail
  go_loopw [12] (fun i wr => i = .int .i64 0 ∧ wr = w) (fun _ _ => 0)
  case atStart => exact ⟨rfl, rfl⟩
  case round =>
    obtain ⟨rfl, rfl⟩ := hrel
    go_wp2_with fail
    go_ret
    exact ⟨rfl, rfl⟩
set_option maxRecDepth 100000 in
set_option maxHeartbeats 2000000 in
theorem bound_none (B : Nat) (eq pt : Value) (w : World) (hB : Box w B 63 #[eq, .slice none 0 0]) :
    Calls Try.prog 56 #[.pointer (some ⟨B, 1, none⟩), pt] w fun e w' => e = .returned (.bool true) ∧ w' = w := by
  have c0 := hB.c 1
  clear hB
  go_enter Try.func56, Try.ntmps56
  go_wp2_with fail
  go_loopw [11] (fun i wr => i = .int .i64 0 ∧ wr = w) (fun _ _ => 0)
  case atStart => exact ⟨rfl, rfl⟩
  case round =>
    obtain ⟨rfl, rfl⟩ := hrel
    go_wp2_with fail
    go_ret
    exact ⟨rfl, rfl⟩

theorem Try.info33 : (Try.prog.info? 33).map (fun i => (i.zero, i.size, i.bytes)) = some (some (.agg #[.string ⟨#[]⟩, .string ⟨#[]⟩, .int .i64 0, .slice none 0 0]), 4, 64) := by kernel_rfl
theorem own_cap1 {w : World} {base e z g n cap : Nat} {xs : List Value} (h : w.ownsRow base e z (.slice (some ⟨g, 0, none⟩) n cap) n xs) : n ≤ cap := by
  rcases h.2 with ⟨hv, _⟩ | ⟨g', cap', cur, hv, _, _, h2, _⟩
  · cases hv
  · cases hv; exact h2
theorem one_bind (nm : ByteArray) (x : ByteArray × Int) (a : Option Addr) (n c : Nat) : ∀ u ∈ [Value.string nm, .string x.1, .int .i64 x.2, .slice a n c], u.oneCell' = true := by
  intro u hu
  simp only [List.mem_cons, List.not_mem_nil, or_false] at hu
  rcases hu with rfl | rfl | rfl | rfl <;> rfl
set_option maxRecDepth 100000 in
set_option maxHeartbeats 4000000 in
/-- add, where there was none. -/
theorem add_one (B : Nat) (eq : Value) (w : World) (nm : ByteArray) (x : ByteArray × Int) (a : Option Addr) (n c : Nat) (hB : Box w B 63 #[eq, .slice none 0 0]) :
    Calls Try.prog 57 #[.pointer (some ⟨B, 1, none⟩), .agg #[.string nm, .string x.1, .int .i64 x.2, .slice a n c]] w fun e w' => (∃ v, e = .returned v) ∧ (∃ g2 c2, Box w' B 63 #[eq, .slice (some ⟨g2, 0, none⟩) 1 c2] ∧ 1 ≤ c2 ∧ w'.ownsRow w.heap.size 33 4 (.slice (some ⟨g2, 0, none⟩) 1 c2) 1 [.string nm, .string x.1, .int .i64 x.2, .slice a n c]) ∧ Fr (fun q => q = B) w w' := by
  obtain ⟨i0, hi, hz0, hz1, hz2⟩ := info_parts Try.info33
  have hb1 := hB.over (.cells #[.string nm, .string x.1, .int .i64 x.2, .slice a n c] 33)
  have hX := Box.new w 33 #[.string nm, .string x.1, .int .i64 x.2, .slice a n c]
  have c1 := hb1.c 1
  have f1 := hb1.f 1
  have z0 := hX.c 0; have z1 := hX.c 1; have z2 := hX.c 2; have z3 := hX.c 3
  have HB := hid hb1
  have hlt := hB.lt
  clear hB hb1 hX
  go_enter Try.func57, Try.ntmps57
  go_upto_region 1 with fail
  go_region_law (refine step_append_lies _ (by rfl) _ _ 43 (by rfl) w.heap.size 33 i0 _ 4 64 Try.underlying43 hi hz0 hz1 hz2 rfl (by decide) (.slice none 0 0) 0 [] (by rfl) (World.ownsRow_nil _ _ _ _) ⟨w.heap.size + 1, 0, none⟩ 1 1 [.string nm, .string x.1, .int .i64 x.2, .slice a n c] (by rfl) rfl (World.news_of_block (box_new (by simp) 33 _)) (one_bind nm x a n c) (by decide) (by decide) (by decide) (by simp; omega) _ rfl ?_; intro g3 cap3 w3 hown3 hgrow3 hat3 hlt3; have hb3 : Box w3 B 63 #[eq, .slice none 0 0] := (hgrow3.block B (by show B < _; simp; omega) (fun e => by cases e)).trans (HB.out.over (.cells #[.string nm, .string x.1, .int .i64 x.2, .slice a n c] 33)); have HB3 := hid hb3; have v1 := hb3.c 1; have e1 := hb3.f 1; have HO3 := hid hown3; have HG3 := hid hgrow3; clear hown3 hgrow3 hat3 hb3)
  all_goals
    have HF : Fr (fun q => q = B) w w3 := by
      have h1 : Below w.heap.size w w3 := by
        refine Below.grown ?_ HG3.out (by simp; omega) (fun k e => by cases e)
        exact (((Below.refl _ w).alloc (Nat.le_refl _) _).alloc (by simp) _).drew
      exact Fr.of_below h1
    refine bodyPost_end (results_none rfl _ _ _) rfl ?_
    have hq3 : w.heap.size ≤ g3 := (owns_cells (g := g3) HO3.out rfl).1
    have hne : g3 ≠ B := by omega
    have hown : (w3.setCell ⟨B, 1, none⟩ (.slice (some ⟨g3, 0, none⟩) 1 cap3)).ownsRow w.heap.size 33 4 (.slice (some ⟨g3, 0, none⟩) 1 cap3) 1 [.string nm, .string x.1, .int .i64 x.2, .slice a n c] := owns_block HO3.out (fun g hg => by cases hg; exact Below.heap_setCell _ _ _ _ hne)
    have hbx : Box (w3.setCell ⟨B, 1, none⟩ (.slice (some ⟨g3, 0, none⟩) 1 cap3)) B 63 #[eq, .slice (some ⟨g3, 0, none⟩) 1 cap3] := HB3.out.set 1 _
    exact ⟨⟨_, rfl⟩, ⟨g3, cap3, hbx, own_cap1 HO3.out, hown⟩, fr_set1 (A := fun q => q = B) HF rfl 1 _⟩
end Go.Proofs.Ytfnfbljijkjkjaa
/- The solver at one equation: set; a sort of one. -/
namespace Go.Proofs.Ytfnfbljijkjkjaa
open Go.RowKit Go.Deep

set_option maxRecDepth 100000 in
set_option maxHeartbeats 2000000 in
theorem len64_one (w : World) : Calls Try.prog 93 #[.int .u64 1] w fun e w' => (∃ k : Int, e = .returned (.int .i64 k)) ∧ w' = w := by
  go_enter Try.func93, Try.ntmps93
  go_wp2
  go_ret
  exact ⟨⟨_, rfl⟩, rfl⟩
set_option maxRecDepth 100000 in
set_option maxHeartbeats 2000000 in
theorem len_one (w : World) : Calls Try.prog 72 #[.int .u64 1] w fun e w' => (∃ k : Int, e = .returned (.int .i64 k)) ∧ w' = w := by
  go_enter Try.func72, Try.ntmps72
  go_wp2_with (go_at_call 93; refine (len64_one _).mono ?_; rintro e w1 ⟨⟨k, rfl⟩, rfl⟩)
  go_ret
  exact ⟨⟨_, rfl⟩, rfl⟩
set_option maxRecDepth 100000 in
set_option maxHeartbeats 2000000 in
theorem insertion_one (p : Option Addr) (c : Nat) (f : Value) (w : World) : Calls Try.prog 84 #[.slice p 1 c, .int .i64 0, .int .i64 1, f] w fun e w' => (∃ v, e = .returned v) ∧ w' = w := by
  go_enter Try.func84, Try.ntmps84
  go_wp2
  go_loopw [8] (fun i wr => i = .int .i64 1 ∧ wr = w) (fun _ _ => 0)
  case atStart => exact ⟨rfl, rfl⟩
  case round =>
    obtain ⟨rfl, rfl⟩ := hrel
    go_wp2
    refine bodyPost_end (results_none rfl _ _ _) rfl ?_
    exact ⟨⟨_, rfl⟩, rfl⟩
set_option maxRecDepth 100000 in
set_option maxHeartbeats 2000000 in
theorem pdq_one (p : Option Addr) (c : Nat) (k : Int) (f : Value) (w : World) : Calls Try.prog 71 #[.slice p 1 c, .int .i64 0, .int .i64 1, .int .i64 k, f] w fun e w' => (∃ v, e = .returned v) ∧ w' = w := by
  have H := hid fun W => insertion_one p c f W
  go_enter Try.func71, Try.ntmps71
  go_wp2_with fail
  go_loopw [1, 2, 3, 10, 11] (fun a b l x y wr => a = .int .i64 0 ∧ b = .int .i64 1 ∧ l = .int .i64 k ∧ x = .bool true ∧ y = .bool true ∧ wr = w) (fun _ _ _ _ _ _ => 0)
  case atStart => exact ⟨rfl, rfl, rfl, rfl, rfl, rfl⟩
  case round =>
    obtain ⟨rfl, rfl, rfl, rfl, rfl, rfl⟩ := hrel
    go_wp2_with (go_at_call 84; refine (H.out _).mono ?_; rintro e w1 ⟨⟨v, rfl⟩, rfl⟩)
    refine bodyPost_ret (results_none rfl _ _ _) rfl ?_
    exact ⟨⟨_, rfl⟩, rfl⟩
set_option maxRecDepth 100000 in
set_option maxHeartbeats 2000000 in
theorem sort_one (p : Option Addr) (c : Nat) (f : Value) (w : World) : Calls Try.prog 51 #[.slice p 1 c, f] w fun e w' => (∃ v, e = .returned v) ∧ w' = w := by
  have H := hid fun k W => pdq_one p c k f W
  go_enter Try.func51, Try.ntmps51
  go_wp2_with (first
    | (go_at_call 72; refine (len_one _).mono ?_; rintro e w1 ⟨⟨k, rfl⟩, rfl⟩)
    | (go_at_call 71; refine (H.out _ _).mono ?_; rintro e w2 ⟨⟨v, rfl⟩, rfl⟩))
  refine bodyPost_end (results_none rfl _ _ _) rfl ?_
  exact ⟨⟨_, rfl⟩, rfl⟩

set_option maxRecDepth 100000 in
set_option maxHeartbeats 4000000 in
/-- set, where nothing is left and nothing is bound. -/
theorem set_one (B c : Nat) (p : Option Addr) (w : World) (nm : ByteArray) (t : Tn) (a : Option Addr) (d : Nat) (hB : Box w B 63 #[.slice p 0 c, .slice none 0 0]) (hT : TmAt w t.1 a d t.2) (hM : nodesF t.2 ≤ 1048576) :
    Calls Try.prog 34 #[.pointer (some ⟨B, 0, none⟩), .agg #[.string nm, .string t.1.1, .int .i64 t.1.2, .slice a (lenF t.2) d]] w fun e w' => e = .returned (.bool true) ∧ (∃ g2 c2 b2, b2 ≤ g2 ∧ w.heap.size ≤ b2 ∧ Box w' B 63 #[.slice p 0 c, .slice (some ⟨g2, 0, none⟩) 1 c2] ∧ 1 ≤ c2 ∧ w'.ownsRow b2 33 4 (.slice (some ⟨g2, 0, none⟩) 1 c2) 1 [.string nm, .string t.1.1, .int .i64 t.1.2, .slice a (lenF t.2) d]) ∧ Fr (fun q => q = B) w w' := by
  obtain ⟨⟨xn, xs⟩, l⟩ := t
  dsimp only at *
  have hb0 := alloc_below0 w (.cells #[.string nm, .string xn, .int .i64 xs, .slice a (lenF l) d] 33)
  have hX := Box.new w 33 #[.string nm, .string xn, .int .i64 xs, .slice a (lenF l) d]
  have HS := hid fun (W : World) (hW : Below w.heap.size w W) => size_any (xn, xs) l a d W (hT.below hW) (by omega)
  have HB0 := hid hb0; have HX := hid hX; have HBB := hid hB
  have z0 := hX.c 0; have z1 := hX.c 1; have z2 := hX.c 2; have z3 := hX.c 3
  have hlt := hB.lt
  clear hX hb0 hT hB
  go_enter Try.func34, Try.ntmps34
  go_upto_region 1 with fail
  go_region_with ((first
    | (go_at_call 54; refine (HS.out _ HB0.out.drew).mono ?_; rintro e w1 ⟨rfl, hb1⟩; have hb1' : Below (w.alloc (.cells #[.string nm, .string xn, .int .i64 xs, .slice a (lenF l) d] 33)).heap.size (w.alloc (.cells #[.string nm, .string xn, .int .i64 xs, .slice a (lenF l) d] 33)) w1 := (Below.refl _ _).drew.trans hb1; have HB1 := hid (HB0.out.trans (hb1'.mono HB0.out.size)); have X1 := HX.out.below hb1'; have HX1 := hid X1; have y0 := X1.c 0; have y1 := X1.c 1; have y2 := X1.c 2; have y3 := X1.c 3; clear hb1 hb1' X1)
    | fail))
  all_goals
    have hba := alloc_below0 w1 (.cells #[.string nm, .string xn, .int .i64 xs, .slice a (lenF l) d, .int .i64 (nodesF l + 1)] 92)
    have HB2 := hid (HB1.out.trans (hba.mono HB1.out.size))
    have X2 := HX1.out.below hba
    have W2 := HBB.out.below HB2.out
    have HW2 := hid W2
    have u0 := X2.c 0; have u1 := X2.c 1; have u2 := X2.c 2; have u3 := X2.c 3
    have r0 : (w1.alloc (.cells #[.string nm, .string xn, .int .i64 xs, .slice a (lenF l) d, .int .i64 (nodesF l + 1)] 92)).drew.cell? ⟨w.heap.size, 0, none⟩ = some (.string nm) := u0
    have r1 : (w1.alloc (.cells #[.string nm, .string xn, .int .i64 xs, .slice a (lenF l) d, .int .i64 (nodesF l + 1)] 92)).drew.cell? ⟨w.heap.size, 1, none⟩ = some (.string xn) := u1
    have r2 : (w1.alloc (.cells #[.string nm, .string xn, .int .i64 xs, .slice a (lenF l) d, .int .i64 (nodesF l + 1)] 92)).drew.cell? ⟨w.heap.size, 2, none⟩ = some (.int .i64 xs) := u2
    have r3 : (w1.alloc (.cells #[.string nm, .string xn, .int .i64 xs, .slice a (lenF l) d, .int .i64 (nodesF l + 1)] 92)).drew.cell? ⟨w.heap.size, 3, none⟩ = some (.slice a (lenF l) d) := u3
    clear z0 z1 z2 z3 y0 y1 y2 y3 X2 W2 hba u0 u1 u2 u3
    go_wp2_with (first
      | (go_at_call 55; refine (sides_none B c p _ _ _ HW2.out).mono ?_; rintro e w3 ⟨rfl, rfl⟩)
      | (go_at_call 56; refine (bound_none B _ _ _ HW2.out).mono ?_; rintro e w3 ⟨rfl, rfl⟩))
    go_region_with ((first
      | (go_at_call 57; refine (add_one B _ _ nm (xn, xs) a (lenF l) d (HW2.out.drew)).mono ?_; rintro e w4 ⟨⟨v4, rfl⟩, ⟨g2, c2, hb4, hc4, ho4⟩, hf4⟩; have HB4 := hid hb4; have HC4 := hid hc4; have HO4 := hid ho4; have HF4 := hid hf4; clear hb4 hc4 ho4 hf4)
      | fail))
    all_goals
      go_wp2_with fail
      go_ret
      have hq : (w1.alloc (.cells #[.string nm, .string xn, .int .i64 xs, .slice a (lenF l) d, .int .i64 (nodesF l + 1)] 92)).heap.size ≤ g2 := (owns_cells (g := g2) HO4.out rfl).1
      exact ⟨rfl, ⟨g2, c2, _, hq, HB2.out.size, HB4.out, HC4.out, HO4.out⟩, (Fr.of_below HB2.out).trans ((Fr.of_below (Below.refl _ _).drew).trans HF4.out)⟩

end Go.Proofs.Ytfnfbljijkjkjaa
/- The solver at one equation: told. -/
namespace Go.Proofs.Ytfnfbljijkjkjaa
open Go.RowKit Go.Deep

theorem row_cell {W : World} {g i : Nat} {cur : Array Value} {t : TypeId} (h : W.heap[g]? = some (Obj.cells cur t (0, 0))) (hi : i < cur.size) : ∃ v, W.cell? ⟨g, i, none⟩ = some v :=
  ⟨cur[i], by rw [cell_of_row W g i cur t (0, 0) h]; simp [hi]⟩
set_option maxRecDepth 100000 in
set_option maxHeartbeats 4000000 in
/-- told of one bind: one. -/
theorem told_one (B g c : Nat) (eq : Value) (w : World) (nm : ByteArray) (t : Tn) (a : Option Addr) (d : Nat) (hB : Box w B 63 #[eq, .slice (some ⟨g, 0, none⟩) 1 c]) (h0 : w.cell? ⟨g, 0, none⟩ = some (.string nm)) (h1 : w.cell? ⟨g, 1, none⟩ = some (.string t.1.1)) (h2 : w.cell? ⟨g, 2, none⟩ = some (.int .i64 t.1.2)) (h3 : w.cell? ⟨g, 3, none⟩ = some (.slice a (lenF t.2) d)) (hT : TmAt w t.1 a d t.2) :
    Calls Try.prog 33 #[.pointer (some ⟨B, 1, none⟩)] w fun e w' => (∃ p c', e = .returned (.slice p 1 c')) ∧ Below w.heap.size w w' := by
  obtain ⟨i0, hi, hz0, hz1, hz2⟩ := info_parts Try.info33
  obtain ⟨⟨xn, xs⟩, l⟩ := t
  dsimp only at *
  have c1 := hB.c 1
  have HB := hid hB; have HT := hid hT
  clear hB hT
  go_enter Try.func33, Try.ntmps33
  go_wp2_with (at_make; refine wpList_make_full _ rfl _ _ 43 rfl w.heap.size 33 i0 (.agg #[.string ⟨#[]⟩, .string ⟨#[]⟩, .int .i64 0, .slice none 0 0]) 4 Try.underlying43 hi hz0 hz1 .i64 .i64 _ _ 1 rfl rfl rfl rfl (by rw [hz2]; decide) (by decide) (by simp) ?_; intro w0 hown0 hgrow0; have hb0 : Below w.heap.size w w0 := (Below.refl _ _).grown hgrow0 (Nat.le_refl _) (fun k e => by cases e); have HB0 := hid hb0; have k1 := (HB.out.below hb0).c 1; have HR0 : Hid (∃ cur, w0.heap[w.heap.size]? = some (Obj.cells cur 33 (0, 0)) ∧ cur.size = 4) := hid (by rcases hown0.2 with ⟨hv, _⟩ | ⟨g', cap', cur, hv, _, hh, _, _, hcs, _⟩ <;> first | (cases hv; done) | (cases hv; exact ⟨cur, hh, hcs⟩)); clear hown0 hgrow0 hb0)
  clear k1
  go_loopw [17] (fun i wr => ∃ j : Nat, j ≤ 1 ∧ i = .int .i64 j ∧ Below w.heap.size w wr ∧ ∃ cur, wr.heap[w.heap.size]? = some (Obj.cells cur 33 (0, 0)) ∧ cur.size = 4) (fun i _ => 1 - (intOf i).toNat)
  case atStart => exact ⟨0, by omega, rfl, HB0.out, HR0.out⟩
  case round =>
    obtain ⟨j, hj, rfl, hb, cur, hcur, hsz⟩ := hrel
    have HBR := hid hb
    have HCUR := hid hcur
    by_cases hlt : j < 1
    · obtain rfl : j = 0 := by omega
      have q0 := below_cell hb _ _ h0; have q1 := below_cell hb _ _ h1; have q2 := below_cell hb _ _ h2; have q3 := below_cell hb _ _ h3
      obtain ⟨E, hE⟩ : ∃ E, wr.alloc (.cells #[.string nm, .string xn, .int .i64 xs, .slice a (lenF l) d] 33) = E := ⟨_, rfl⟩
      have hbE : Below wr.heap.size wr E := by rw [← hE]; exact alloc_below0 wr _
      have bE : Box E wr.heap.size 33 #[.string nm, .string xn, .int .i64 xs, .slice a (lenF l) d] := by rw [← hE]; exact Box.new wr 33 _
      have HBE := hid hbE; have BE := hid bE
      have HC := hid fun (W : World) (hW : Below E.heap.size E W) => clone_any (xn, xs) l a d W (HT.out.below ((HBR.out.trans (HBE.out.mono HBR.out.size)).trans (hW.mono (HBR.out.trans (HBE.out.mono HBR.out.size)).size)))
      have hcl : Hid (w.heap.size < wr.heap.size) := hid (Array.getElem?_eq_some_iff.1 hcur).1
      clear hb hcur hbE bE
      go_upto_region 5 with fail
      clear hE q0 q1 q2 q3
      have d0 : E.drew.cell? ⟨wr.heap.size, 0, none⟩ = some (.string nm) := BE.out.c 0
      have d1 : E.drew.cell? ⟨wr.heap.size, 1, none⟩ = some (.string xn) := BE.out.c 1
      have d2 : E.drew.cell? ⟨wr.heap.size, 2, none⟩ = some (.int .i64 xs) := BE.out.c 2
      have d3 : E.drew.cell? ⟨wr.heap.size, 3, none⟩ = some (.slice a (lenF l) d) := BE.out.c 3
      go_region_with ((first
        | (go_at_call 39; (with_reducible refine Calls.mono (HC.out _ (Below.refl _ E).drew) ?_); rintro e v1 ⟨a3, c3, rfl, hs1, hb1, hzz⟩; clear hzz hs1; have hb1' : Below E.heap.size E v1 := ((Below.refl _ E).drew).trans hb1; have HB1 := hid hb1'; have y0 : v1.cell? ⟨wr.heap.size, 0, none⟩ = some (.string nm) := (BE.out.below hb1').c 0; have hrow : v1.heap[w.heap.size]? = some (Obj.cells cur 33 (0, 0)) := (hb1'.block _ (Nat.lt_of_lt_of_le hcl.out HBE.out.size)).trans ((HBE.out.block _ hcl.out).trans HCUR.out); have HROW := hid hrow; have f0 : v1.frozen? ⟨w.heap.size, 0, none⟩ = false := row_frozen hrow; have f1 : v1.frozen? ⟨w.heap.size, 1, none⟩ = false := row_frozen hrow; have f2 : v1.frozen? ⟨w.heap.size, 2, none⟩ = false := row_frozen hrow; have f3 : v1.frozen? ⟨w.heap.size, 3, none⟩ = false := row_frozen hrow; obtain ⟨t0, s0⟩ := row_cell hrow (i := 0) (by omega); obtain ⟨t1, s1⟩ := row_cell hrow (i := 1) (by omega); obtain ⟨t2, s2⟩ := row_cell hrow (i := 2) (by omega); obtain ⟨t3, s3⟩ := row_cell hrow (i := 3) (by omega); clear hb1 hb1' hrow)
        | fail))
      all_goals
        go_wp2_with fail
        go_roundw
        case rel =>
          refine ⟨1, by omega, by go_num, ?_, _, block_set (block_set (block_set (block_set HROW.out _) _) _) _, by simp [hsz]⟩
          exact ((((HBR.out.trans (HBE.out.mono HBR.out.size)).trans (HB1.out.mono (HBR.out.trans (HBE.out.mono HBR.out.size)).size)).setCell (p := ⟨w.heap.size, 0, none⟩) (Nat.le_refl _) _).setCell (p := ⟨w.heap.size, 1, none⟩) (Nat.le_refl _) _ |>.setCell (p := ⟨w.heap.size, 2, none⟩) (Nat.le_refl _) _).setCell (p := ⟨w.heap.size, 3, none⟩) (Nat.le_refl _) _
        case measure => simp [intOf]
    · obtain rfl : j = 1 := by omega
      clear hb hcur
      go_wp2_with (go_at_call 51; refine (sort_one _ _ _ _).mono ?_; rintro e w5 ⟨⟨v, rfl⟩, rfl⟩)
      go_ret
      exact ⟨⟨_, _, rfl⟩, HBR.out⟩
end Go.Proofs.Ytfnfbljijkjkjaa
/- Ranges over functions: the law of a range, a statement whose order is open in a round; slices.Backward over one equation. -/
namespace Go.Proofs.Ytfnfbljijkjkjaa
open Go.RowKit Go.Shelf Go.Deep


/-- How a round is left: the record is as the round found it, and what yield hands back is asked. -/
def rndPost (l : Nat) (r : Loop) (R : Ending → World → Prop) : Exit → Act → World → Prop
  | .normal, _, W => W.heap[l]? = some (.loop { r with state := .busy }) ∧ R (.returned (.bool true)) (W.putObj l (.loop { r with state := .ready, pending := none }))
  | .ret, _, W => W.heap[l]? = some (.loop { r with state := .busy }) ∧ R (.returned (.bool false)) (W.putObj l (.loop { r with state := .done, pending := some .ret }))
  | .exit i, _, W => W.heap[l]? = some (.loop { r with state := .busy }) ∧ R (.returned (.bool false)) (W.putObj l (.loop { r with state := .done, pending := some (.exit i) }))
  | .goto t, _, W => W.heap[l]? = some (.loop { r with state := .busy }) ∧ R (.returned (.bool false)) (W.putObj l (.loop { r with state := .done, pending := some (.goto t) }))
  | .panic _, _, _ => False
  | .outgrown, _, _ => False
theorem yield_round {F : Fence} {m : Nat} {P : Program} {l : Nat} {r : Loop} {W : World} {args : Array Value} {R : Ending → World → Prop} (hl : W.heap[l]? = some (.loop r)) (hrd : r.state = .ready) (hs : args.size = r.params.size) (hfn : F.fn r.fn)
    (hw : r.assign.wpIn (F.inRound l) m P (Exit.then (fun a1 W1 => W1.heap[l]? = some (.loop r) ∧ r.body.wpIn (F.inRound l) m P (rndPost l r R) a1 (W1.putObj l (.loop { r with state := .busy }))) (fun _ _ _ => False)) { tmps := (r.params.zip args).foldl (fun t (p, v) => t.setIfInBounds p v) r.tmps, defers := [] } W) :
    YieldAt F m P l args W R := by
  refine ⟨r.fn, _, r.assign, r.body, run_yield hl hs, roundIn_of_wpIn hfn (wpIn_mono hw ?_)⟩
  rintro e a1 W1 hp
  cases e with
  | normal =>
    obtain ⟨hl1, hb⟩ := hp
    refine ⟨_, run_beginRound hl1 hrd, wpIn_mono hb ?_⟩
    rintro e a3 W3 hp
    cases e with
    | normal => exact ⟨_, _, run_endRound none hp.1, hp.2⟩
    | ret => exact ⟨_, _, run_endRound (some .ret) hp.1, hp.2⟩
    | exit i => exact ⟨_, _, run_endRound (some (.exit i)) hp.1, hp.2⟩
    | goto t => exact ⟨_, _, run_endRound (some (.goto t)) hp.1, hp.2⟩
    | panic _ => exact hp.elim
    | outgrown => exact hp.elim
  | ret => exact hp.elim
  | exit i => exact hp.elim
  | goto t => exact hp.elim
  | panic _ => exact hp.elim
  | outgrown => exact hp.elim
theorem range_law {F : Fence} {n : Nat} {P : Program} {g : Operand} {ps : Array Tmp} {assign body : Code} {Q : Exit → Act → World → Prop} {a : Act} {w : World}
    (hro : F.round = none) (h1 : 1 ≤ n) {gf : Nat} {lb : Array Value} (hg : a.eval g = .func (.func gf) #[] lb) (hFg : F.fn gf) (eg : ∀ args w, (callFunc gf args).run P w = .ok (.enter gf args) w)
    (hcall : ∀ r : Loop, r.state = .ready → r.pending = none → r.tmps = a.tmps → r.params = ps → r.assign = assign → r.body = body → F.fn r.fn →
      CallsIn F (n - 1) P gf (#[.func (.yield (w.heap.size + 1)) #[] #[]] ++ lb) ((w.alloc (.deferred (some []))).alloc (.loop r)) fun e W => (∃ v, e = .returned v) ∧ W.heap[w.heap.size]? = some (.deferred (some [])) ∧
        ((W.heap[w.heap.size + 1]? = some (.loop r) ∧ Q .normal { a with defers := { target := .collected w.heap.size, args := #[] } :: a.defers } (W.putObj (w.heap.size + 1) (.loop { r with state := .exhausted }))) ∨
         (∃ c, W.heap[w.heap.size + 1]? = some (.loop { r with state := .done, pending := some c }) ∧ c.wpIn F n P Q { a with defers := { target := .collected w.heap.size, args := #[] } :: a.defers } (W.putObj (w.heap.size + 1) (.loop { r with state := .exhausted, pending := some c }))))) :
    (Code.rangeFunc g ps assign body).wpIn F n P Q a w := by
  refine wpIn_rangeFunc ?_
  intro fn hfn
  rw [hro]
  let r : Loop := { state := .ready, pending := none, fn, tmps := a.tmps, params := ps, assign, body, defers := w.heap.size }
  let W1 : World := (w.alloc (.deferred (some []))).alloc (.loop r)
  refine ⟨w.heap.size + 1, [{ target := .collected w.heap.size, args := #[] }], W1, { target := .fn (.func gf) lb, args := #[.func (.yield (w.heap.size + 1)) #[] #[]] }, W1, gf,
    #[.func (.yield (w.heap.size + 1)) #[] #[]] ++ lb, W1, run_enterLoop_outer fn a.tmps ps assign body, ?_, ?_, ?_, fun _ => h1, ?_⟩
  · simp only [resolve, hg]
    simp [go_sem]
  · intro f' hf'; simp [Target.leads] at hf'; subst hf'; exact hFg
  · simp [invoke, go_sem, eg]
  · refine (hcall r rfl rfl rfl rfl rfl rfl hfn).mono ?_
    rintro e W ⟨⟨v, rfl⟩, hd, (⟨hl, hq⟩ | ⟨c, hl, hq⟩)⟩
    · exact ⟨none, _, run_endLoop hl (by simp), hq⟩
    · exact ⟨some c, _, run_endLoop hl (by simp), hq⟩
theorem yield_by {F : Fence} {m : Nat} {P : Program} {l : Nat} {r : Loop} {W : World} {args : Array Value} {R : Ending → World → Prop} {ca bd : Code} {tm : Array Value} {ps : Array Tmp} (ha : r.assign = ca) (hb : r.body = bd) (ht : r.tmps = tm) (hp : r.params = ps) (hl : W.heap[l]? = some (.loop r)) (hrd : r.state = .ready) (hs : args.size = ps.size) (hfn : F.fn r.fn)
    (hw : ca.wpIn (F.inRound l) m P (Exit.then (fun a1 W1 => W1.heap[l]? = some (.loop r) ∧ bd.wpIn (F.inRound l) m P (rndPost l r R) a1 (W1.putObj l (.loop { r with state := .busy }))) (fun _ _ _ => False)) { tmps := (ps.zip args).foldl (fun t (p, v) => t.setIfInBounds p v) tm, defers := [] } W) :
    YieldAt F m P l args W R := by
  subst ha hb ht hp
  exact yield_round hl hrd hs hfn hw
theorem loop_again {r : Loop} (h1 : r.state = .ready) (h2 : r.pending = none) : ({ r with state := .ready, pending := none } : Loop) = r := by
  cases r
  simp only at h1 h2
  subst h1 h2
  rfl

theorem rowsIn_of_rows {P : Program} {n : Nat} {row : String} {args : Array Value} {w : World} {R : Value → World → Prop} (h : Rows P row args w R) : RowsIn Fence.wide n P row args w R :=
  fun c cs _ => by
    obtain ⟨v, w', hr, hs⟩ := h c cs
    exact ⟨v, w', hr, stepsIn_wide.2 hs⟩

/-- No operation of the region is a defer statement. -/
def noDefer (ops : Array Oper) : Bool := ops.toList.all fun o => match o.op with | .defer _ => false | _ => true

theorem upon_round {P : Program} {n l : Nat} {o : Oper} {a : Act} {K : Act → World → Prop} {Q : Exit → Act → World → Prop} (r : Result Next) (h : o.upon P a K Q r) : o.uponIn (Fence.wide.inRound l) n P a K Q r := by
  cases r with
  | ok x w =>
    cases x with
    | value v => exact h
    | skip => exact h
    | defer d => exact h
    | enter f args => exact ⟨(fun e => by cases e), CallsIn.inRound l (callsIn_wide.2 h)⟩
    | row row args => exact ⟨(fun e => by cases e), rowsIn_of_rows h⟩
    | _ => exact (show False from h).elim
  | halt x w =>
    cases x with
    | panic v => exact h
    | _ => exact (show False from h).elim

theorem wpOp_round {P : Program} {n l : Nat} {ops : Array Oper} {Q : Exit → Act → World → Prop} {i : Nat} {K : Act → World → Prop} {a : Act} {w : World} (hd : noDefer ops = true) (hQ : ¬ LetsOut Q)
    (h : wpOp P ops Q i K a w) : wpOpIn (Fence.wide.inRound l) n P ops Q i K a w := by
  unfold wpOp at h
  unfold wpOpIn
  cases ho : ops[i]? with
  | none => rw [ho] at h; exact h
  | some o =>
    rw [ho] at h
    dsimp only at h ⊢
    by_cases hw : Region.wanted o (yielded ops a.tmps) = true
    · rw [if_pos hw] at h ⊢
      rcases h with h | ⟨_, h⟩
      · have hno : ∀ c, o.op ≠ .defer c := fun c e => by
          unfold noDefer at hd
          have := List.all_eq_true.1 hd o (by rw [Array.mem_toList_iff]; exact Array.mem_of_getElem? ho)
          rw [e] at this
          cases this
        refine ⟨fun _ _ => trivial, ?_⟩
        rw [Oper.semAt_plain _ _ _ hno]
        exact upon_round _ h
      · exact absurd h hQ
    · rw [if_neg hw] at h ⊢
      exact ⟨fun _ _ => trivial, h⟩

theorem wpAny_round {P : Program} {n l : Nat} {md : Region.Mode} {ops : Array Oper} {Q : Exit → Act → World → Prop} (hd : noDefer ops = true) (hQ : ¬ LetsOut Q) : ∀ (fuel : Nat) (listed : Array Bool) (a : Act) (w : World),
    wpAny P md ops Q fuel listed a w → wpAnyIn (Fence.wide.inRound l) n P md ops Q fuel listed a w
  | 0, _, _, _, h => h
  | fuel + 1, _, _, _, h => ⟨h.1, fun i hi => wpOp_round hd hQ (wpOp_mono (fun a' w' h' => wpAny_round hd hQ fuel _ a' w' h') (h.2 i hi))⟩

/-- The statement by any plain walk of its orders. -/
theorem wpIn_region_round {P : Program} {n l id : Nat} {ops : List Oper} {Q : Exit → Act → World → Prop} {a : Act} {w : World} (hm : P.follows .mixedOrders = true) (hd : noDefer ops.toArray = true) (hQ : ¬ LetsOut Q)
    (h : wpAny P .any ops.toArray Q ops.toArray.size (Array.replicate ops.toArray.size false) a w.drew) : (Code.region id ops.toArray true).wpIn (Fence.wide.inRound l) n P Q a w :=
  wpIn_region_any hm (wpAny_round hd hQ _ _ _ _ h)

/-- The quiet walk, in a round. -/
theorem wpIn_region_later {P : Program} {n l id : Nat} {ops : List Oper} {Q : Exit → Act → World → Prop} {a : Act} {w : World} (hm : P.follows .mixedOrders = true) (hB : Region.lexB .any ops.toArray = true) (hd : noDefer ops.toArray = true) (hQ : ¬ LetsOut Q)
    (h : wpQuiet P ops.toArray (fun w' => ∃ b : Later w, w' = b.now) (fun a' => ∀ w', (∃ b : Later w, w' = b.now) → Q .normal a' w') ops a) : (Code.region id ops.toArray true).wpIn (Fence.wide.inRound l) n P Q a w := by
  refine wpIn_region_round hm hd hQ ?_
  have hB' := hB
  simp only [Region.lexB, Bool.and_eq_true] at hB'
  have hC : (fun w' => ∃ b : Later w, w' = b.now) w.drew := ⟨⟨w.drew, (Below.refl _ _).drew⟩, rfl⟩
  refine wpAny_of_quiet (C := fun w' => ∃ b : Later w, w' = b.now) (Q := fun a' => ∀ w', (∃ b : Later w, w' = b.now) → Q .normal a' w') (fun _ w' hw' h => h w' hw') _ _ _ _ hC ?_
  have := wpAnyQ_lex (P := P) (C := fun w' => ∃ b : Later w, w' = b.now) (md := .any) hB'.1 ops.toArray.toList 0 (Array.replicate ops.toArray.size false) a (by simp) (by simpa using hB'.2) (by simpa using h)
  simpa using this

/-- The held walk, in a round: S is shown of the world behind the draw, once, and handed on. -/
theorem wpIn_region_held {P : Program} {n l id : Nat} {ops : List Oper} {Q : Exit → Act → World → Prop} (S : World → Prop) {a : Act} {w : World} (hm : P.follows .mixedOrders = true) (hd : noDefer ops.toArray = true) (hQ : ¬ LetsOut Q) (hS : S w.drew)
    (h : S w.drew → wpAnyH P .any ops.toArray Q S ops.toArray.size (Array.replicate ops.toArray.size false) a w.drew) : (Code.region id ops.toArray true).wpIn (Fence.wide.inRound l) n P Q a w :=
  wpIn_region_round hm hd hQ (wpAny_of_held _ _ _ _ (h hS))

attribute [local go_sem] Oper.semAt_some

set_option maxRecDepth 100000 in
set_option maxHeartbeats 2000000 in
theorem back_one (m : Nat) (hm : 1 ≤ m) (l Bn g c : Nat) (k1 k2 : Kv) (J0 J1 : World → Prop)
    (hrow : ∀ W, J0 W → Box W Bn 34 #[.slice (some ⟨g, 0, none⟩) 1 c] ∧ CellsAt W g [k1, k2])
    (hY : ∀ W, J0 W → YieldAt Fence.wide (m - 1) Try.prog l #[.int .i64 0, .agg #[.string k1.x.1, .int .i64 k1.x.2, .slice k1.a (lenF k1.l) k1.c, .string k2.x.1, .int .i64 k2.x.2, .slice k2.a (lenF k2.l) k2.c]] W fun e W' => e = .returned (.bool true) ∧ J1 W')
    (W : World) (h0 : J0 W) :
    CallsIn Fence.wide m Try.prog 70 #[.func (.yield l) #[] #[], .pointer (some ⟨Bn, 0, none⟩)] W fun e W' => (∃ v, e = .returned v) ∧ J1 W' := by
  obtain ⟨hbx, hcs⟩ := hrow W h0
  have c0 := hbx.c 0
  have q0 : W.cell? ⟨g, 0, none⟩ = some (.string k1.x.1) := hcs 0 _ rfl
  have q1 : W.cell? ⟨g, 1, none⟩ = some (.int .i64 k1.x.2) := hcs 1 _ rfl
  have q2 : W.cell? ⟨g, 2, none⟩ = some (.slice k1.a (lenF k1.l) k1.c) := hcs 2 _ rfl
  have q3 : W.cell? ⟨g, 3, none⟩ = some (.string k2.x.1) := hcs 3 _ rfl
  have q4 : W.cell? ⟨g, 4, none⟩ = some (.int .i64 k2.x.2) := hcs 4 _ rfl
  have q5 : W.cell? ⟨g, 5, none⟩ = some (.slice k2.a (lenF k2.l) k2.c) := hcs 5 _ rfl
  obtain ⟨fn, tmps, assign, body, hy, hR⟩ := hY W h0
  have HR := hid hR
  clear hbx hcs hrow hY h0 hR
  refine callsIn_of_wp Try.func70 rfl trivial ?_ rfl
  simp only [Try.ntmps70, List.size_toArray, List.length_cons, List.length_nil, Nat.reduceAdd, Nat.reduceSub, Array.replicate_succ, Array.replicate_zero, List.push_toArray, List.append_toArray, List.nil_append, List.cons_append]
  gi_wp2
  gi_loopw [3] (fun p wr => (p = .int .i64 0 ∧ wr = W) ∨ (p = .int .i64 (-1) ∧ J1 wr)) (fun p _ => (intOf p + 1).toNat)
  case atStart => exact .inl ⟨rfl, rfl⟩
  case round =>
    rcases hrel with ⟨rfl, rfl⟩ | ⟨rfl, hj⟩
    · gi_wp2
      refine HR.out.mono ?_
      rintro e W3 ⟨rfl, hJ3⟩
      gi_wp2
      go_roundw
      case rel => exact .inr ⟨rfl, hJ3⟩
      case measure => simp [intOf]
    · gi_wp2
      refine bodyPost_end (results_none rfl _ _ _) rfl ?_
      exact ⟨⟨_, rfl⟩, hj⟩
theorem backward_any (q : Option Addr) (n d : Nat) (w : World) : Calls Try.prog 50 #[.slice q n d] w fun e w' => e = .returned (.func (.func 70) #[] #[.pointer (some ⟨w.heap.size, 0, none⟩)]) ∧ w' = w.alloc (.cells #[.slice q n d] 34) := by
  go_enter Try.func50, Try.ntmps50
  go_wp2
  go_ret
  exact ⟨rfl, rfl⟩
end Go.Proofs.Ytfnfbljijkjkjaa
/- lay of one equation where there was none. -/
namespace Go.Proofs.Ytfnfbljijkjkjaa
open Go.RowKit Go.Shelf Go.Deep

attribute [local go_sem] Oper.semAt_some

/-- What lay keeps from its start on: its boxes, the list. -/
structure LyK (w : World) (B P1 P2 D : Nat) (bd : Value) (g c : Nat) (k1 k2 : Kv) (W : World) : Prop where
  low : Fr (fun q => q = B) w W
  p1 : Box W P1 80 #[.pointer (some ⟨B, 0, none⟩)]
  p2 : Box W P2 34 #[.slice (some ⟨g, 0, none⟩) 1 c]
  df : W.heap[D]? = some (.deferred (some []))
  cells : CellsAt W g [k1, k2]

theorem put_cells {W : World} {g L : Nat} {ks : List Kv} (h : CellsAt W g ks) (hg : g ≠ L) (o : Obj) : CellsAt (W.putObj L o) g ks := fun i u hu => (World.cell?_of_block (World.putObj_heap_other hg)).trans (h i u hu)
theorem fr_putl {A : Nat → Prop} {w W : World} (h : Fr A w W) {l : Nat} (hl : w.heap.size ≤ l) (o : Obj) : Fr A w (W.putObj l o) :=
  ⟨h.low.trans (below_putObj _ (Nat.zero_le _) _), fun q hq hA => (World.putObj_heap_other (by omega)).trans (h.same q hq hA)⟩
theorem LyK.put {w : World} {B P1 P2 D : Nat} {bd : Value} {g c : Nat} {k1 k2 : Kv} {W : World} (h : LyK w B P1 P2 D bd g c k1 k2 W) {L : Nat} (hl : w.heap.size ≤ L) (h1 : P1 ≠ L) (h2 : P2 ≠ L) (h3 : D ≠ L) (h4 : g ≠ L) (o : Obj) : LyK w B P1 P2 D bd g c k1 k2 (W.putObj L o) :=
  ⟨fr_putl h.low hl o, (World.putObj_heap_other h1).trans h.p1, (World.putObj_heap_other h2).trans h.p2, (World.putObj_heap_other h3).trans h.df, fun i u hu => (World.cell?_of_block (World.putObj_heap_other h4)).trans (h.cells i u hu)⟩
theorem six_one (k1 k2 : Kv) : ∀ u ∈ kvCells [k1, k2], u.oneCell' = true := by
  intro u hu
  have e : kvCells [k1, k2] = [.string k1.x.1, .int .i64 k1.x.2, .slice k1.a (lenF k1.l) k1.c, .string k2.x.1, .int .i64 k2.x.2, .slice k2.a (lenF k2.l) k2.c] := rfl
  rw [e] at hu
  simp only [List.mem_cons, List.not_mem_nil, or_false] at hu
  rcases hu with rfl | rfl | rfl | rfl | rfl | rfl <;> rfl
theorem owns_cell0 {w : World} {base e size g n cap : Nat} {xs : List Value} (h : w.ownsRow base e size (.slice (some ⟨g, 0, none⟩) n cap) n xs) {i : Nat} {u : Value} (hu : xs[i]? = some u) : w.cell? ⟨g, i, none⟩ = some u := by
  have := owns_at h i u hu
  rwa [Nat.zero_add] at this

set_option maxRecDepth 100000 in
set_option maxHeartbeats 4000000 in
theorem lay_one (B g c : Nat) (bd : Value) (w : World) (k1 k2 : Kv) (hB : Box w B 63 #[.slice none 0 0, bd]) (hg : CellsAt w g [k1, k2]) (hgB : g ≠ B) :
    Calls Try.prog 31 #[.pointer (some ⟨B, 0, none⟩), .slice (some ⟨g, 0, none⟩) 1 c] w fun e w' => (∃ v, e = .returned v) ∧ (∃ g2 c2, Box w' B 63 #[.slice (some ⟨g2, 0, none⟩) 1 c2, bd] ∧ 1 ≤ c2 ∧ w.heap.size ≤ g2 ∧ CellsAt w' g2 [k1, k2]) ∧ Fr (fun q => q = B) w w' := by
  refine (callsIn_wide (n := 6)).1 ?_
  have h1 : 1 ≤ 6 := by omega
  have HB := hid hB; have HG := hid hg
  have hlt := hB.lt
  clear hB hg
  refine callsIn_of_wp_marks Try.func31 rfl trivial ?_ rfl
  simp only [Try.ntmps31, List.size_toArray, List.length_cons, List.length_nil, Nat.reduceAdd, Nat.reduceSub, Array.replicate_succ, Array.replicate_zero, List.push_toArray, List.append_toArray, List.nil_append, List.cons_append]
  gi_wp2_with fail
  refine ⟨trivial, ?_⟩
  refine (callsIn_wide.2 (backward_any _ _ _ _)).mono ?_
  rintro e w' ⟨rfl, rfl⟩
  gi_wp2
  obtain ⟨W0, hW0⟩ : ∃ W0, (w.alloc (.cells #[.pointer (some ⟨B, 0, none⟩)] 80)).alloc (.cells #[.slice (some ⟨g, 0, none⟩) 1 c] 34) = W0 := ⟨_, rfl⟩
  obtain ⟨t1, t2, t3⟩ := two_new w #[.pointer (some ⟨B, 0, none⟩)] 80 #[.slice (some ⟨g, 0, none⟩) 1 c] 34
  have hz0 : W0.heap.size = w.heap.size + 2 := by rw [← hW0]; simp
  rw [hW0] at t1 t2 t3 ⊢
  have HT1 := hid t1; have HT2 := hid t2; have HT3 := hid t3; have HZ0 := hid hz0
  clear hW0 t1 t2 t3
  refine range_law rfl h1 (gf := 70) (lb := #[.pointer (some ⟨w.heap.size + 1, 0, none⟩)]) rfl trivial (enters_of Try.func70 (by kernel_rfl) rfl) ?_
  intro r hr1 hr2 hr3 hr4 hr5 hr6 hr7
  have hbb : Below W0.heap.size W0 ((W0.alloc (.deferred (some []))).alloc (.loop r)) := ((Below.refl _ W0).alloc (Nat.le_refl _) _).alloc (by simp) _
  have hwb := HT3.out.trans (hbb.mono HT3.out.size)
  have hK0 : LyK w B w.heap.size (w.heap.size + 1) W0.heap.size bd g c k1 k2 ((W0.alloc (.deferred (some []))).alloc (.loop r)) :=
    ⟨Fr.of_below hwb, HT1.out.below hbb, HT2.out.below hbb, (Below.heap_alloc _ _ _ (by simp)).trans (World.alloc_heap_new W0 _), fun i u hu => below_cell hwb _ _ (HG.out i u hu)⟩
  have hL0 : ((W0.alloc (.deferred (some []))).alloc (.loop r)).heap[W0.heap.size + 1]? = some (.loop r) := by
    have := World.alloc_heap_new (W0.alloc (.deferred (some []))) (.loop r)
    rwa [World.size_alloc] at this
  have hB0 := HB.out.below hwb
  refine (back_one (6 - 1) (by omega) (W0.heap.size + 1) (w.heap.size + 1) g c k1 k2
    (fun W => LyK w B w.heap.size (w.heap.size + 1) W0.heap.size bd g c k1 k2 W ∧ W.heap[W0.heap.size + 1]? = some (.loop r) ∧ Box W B 63 #[.slice none 0 0, bd])
    (fun W => LyK w B w.heap.size (w.heap.size + 1) W0.heap.size bd g c k1 k2 W ∧ W.heap[W0.heap.size + 1]? = some (.loop r) ∧ ∃ g2 c2, Box W B 63 #[.slice (some ⟨g2, 0, none⟩) 1 c2, bd] ∧ 1 ≤ c2 ∧ w.heap.size + 4 ≤ g2 ∧ CellsAt W g2 [k1, k2])
    (fun W h => ⟨h.1.p2, h.1.cells⟩) ?_ _ ⟨hK0, hL0, hB0⟩).mono ?_
  · rintro W ⟨hKW, hL, hBW⟩
    refine yield_by hr5 hr6 hr3 hr4 hL hr1 rfl hr7 ?_
    have HKW := hid hKW; have HL := hid hL; have HBW := hid hBW
    clear hKW hL hBW hr3 hr4 hr5 hr6 hK0 hL0 hB0 hbb hwb
    simp only [List.zip_toArray, List.zip_cons_cons, List.zip_nil_right, List.foldl_toArray, List.foldl_cons, List.foldl_nil, List.setIfInBounds_toArray, List.set_cons_succ, List.set_cons_zero]
    gi_wp2
    have hgl : g < w.heap.size := World.block_lt_of_cell? w ⟨g, 0, none⟩ (HG.out 0 (.string k1.x.1) rfl)
    have hz := HZ0.out
    have hLW : W0.heap.size + 1 < W.heap.size := (Array.getElem?_eq_some_iff.1 HL.out).1
    have hbE := alloc_below0 W (.cells #[.string k1.x.1, .int .i64 k1.x.2, .slice k1.a (lenF k1.l) k1.c, .string k2.x.1, .int .i64 k2.x.2, .slice k2.a (lenF k2.l) k2.c] 28)
    have hxE := Box.new W 28 #[.string k1.x.1, .int .i64 k1.x.2, .slice k1.a (lenF k1.l) k1.c, .string k2.x.1, .int .i64 k2.x.2, .slice k2.a (lenF k2.l) k2.c]
    have hzE : (W.alloc (.cells #[.string k1.x.1, .int .i64 k1.x.2, .slice k1.a (lenF k1.l) k1.c, .string k2.x.1, .int .i64 k2.x.2, .slice k2.a (lenF k2.l) k2.c] 28)).heap.size = W.heap.size + 1 := by simp
    refine ⟨(hbE.block _ hLW).trans HL.out, ?_⟩
    have HE0 := hid hxE; have HBE := hid hbE; have HZE := hid hzE
    clear hbE hxE hzE
    generalize W.alloc (.cells #[.string k1.x.1, .int .i64 k1.x.2, .slice k1.a (lenF k1.l) k1.c, .string k2.x.1, .int .i64 k2.x.2, .slice k2.a (lenF k2.l) k2.c] 28) = EW at HE0 HBE HZE ⊢
    have hoth : ∀ q, q ≠ W0.heap.size + 1 → (EW.putObj (W0.heap.size + 1) (.loop { r with state := .busy })).heap[q]? = EW.heap[q]? := fun q hq => World.putObj_heap_other hq
    have HL2 : Hid ((EW.putObj (W0.heap.size + 1) (.loop { r with state := .busy })).heap[W0.heap.size + 1]? = some (.loop { r with state := .busy })) := hid (World.putObj_heap_same (by have := HZE.out; omega))
    have hfr2 : Fr (fun q => q = B) w (EW.putObj (W0.heap.size + 1) (.loop { r with state := .busy })) :=
      ⟨(HKW.out.low.trans (Fr.of_below HBE.out)).low.trans (below_putObj _ (Nat.zero_le _) _), fun q hq hA => (hoth q (by omega)).trans ((HKW.out.low.trans (Fr.of_below HBE.out)).same q hq hA)⟩
    have HOTH := hid hoth
    clear hoth
    generalize EW.putObj (W0.heap.size + 1) (.loop { r with state := .busy }) = W2 at HOTH HL2 hfr2 ⊢
    have hcg : CellsAt W2 g [k1, k2] := fun i u hu => (World.cell?_of_block (HOTH.out g (by omega))).trans (below_cell HBE.out _ _ (HKW.out.cells i u hu))
    have HK2 : Hid (LyK w B w.heap.size (w.heap.size + 1) W0.heap.size bd g c k1 k2 W2) := hid ⟨hfr2, (HOTH.out _ (by omega)).trans (HKW.out.p1.below HBE.out), (HOTH.out _ (by omega)).trans (HKW.out.p2.below HBE.out), (HOTH.out _ (by omega)).trans ((HBE.out.block _ (by omega)).trans HKW.out.df), hcg⟩
    have HB2 : Hid (Box W2 B 63 #[.slice none 0 0, bd]) := hid ((HOTH.out _ (by omega)).trans (HBW.out.below HBE.out))
    have HE2 : Hid (Box W2 W.heap.size 28 #[.string k1.x.1, .int .i64 k1.x.2, .slice k1.a (lenF k1.l) k1.c, .string k2.x.1, .int .i64 k2.x.2, .slice k2.a (lenF k2.l) k2.c]) := hid ((HOTH.out _ (by omega)).trans HE0.out)
    clear hfr2 hcg HKW HL HBW
    have HSS : Hid (∀ V, Below W2.heap.size W2 V → V.cell? ⟨w.heap.size, 0, none⟩ = some (.pointer (some ⟨B, 0, none⟩)) ∧ V.cell? ⟨W.heap.size, 0, none⟩ = some (.string k1.x.1) ∧ V.cell? ⟨W.heap.size, 1, none⟩ = some (.int .i64 k1.x.2) ∧ V.cell? ⟨W.heap.size, 2, none⟩ = some (.slice k1.a (lenF k1.l) k1.c) ∧ V.cell? ⟨W.heap.size, 3, none⟩ = some (.string k2.x.1) ∧ V.cell? ⟨W.heap.size, 4, none⟩ = some (.int .i64 k2.x.2) ∧ V.cell? ⟨W.heap.size, 5, none⟩ = some (.slice k2.a (lenF k2.l) k2.c)) := hid (fun V hV =>
      ⟨(HK2.out.p1.below hV).c 0, (HE2.out.below hV).c 0, (HE2.out.below hV).c 1, (HE2.out.below hV).c 2, (HE2.out.below hV).c 3, (HE2.out.below hV).c 4, (HE2.out.below hV).c 5⟩)
    have HSX : Hid (∀ V, Below W2.heap.size W2 V → ∀ u : Value, (V.setCell ⟨B, 0, none⟩ u).cell? ⟨w.heap.size, 0, none⟩ = some (.pointer (some ⟨B, 0, none⟩)) ∧ (V.setCell ⟨B, 0, none⟩ u).cell? ⟨W.heap.size, 0, none⟩ = some (.string k1.x.1) ∧ (V.setCell ⟨B, 0, none⟩ u).cell? ⟨W.heap.size, 1, none⟩ = some (.int .i64 k1.x.2) ∧ (V.setCell ⟨B, 0, none⟩ u).cell? ⟨W.heap.size, 2, none⟩ = some (.slice k1.a (lenF k1.l) k1.c) ∧ (V.setCell ⟨B, 0, none⟩ u).cell? ⟨W.heap.size, 3, none⟩ = some (.string k2.x.1) ∧ (V.setCell ⟨B, 0, none⟩ u).cell? ⟨W.heap.size, 4, none⟩ = some (.int .i64 k2.x.2) ∧ (V.setCell ⟨B, 0, none⟩ u).cell? ⟨W.heap.size, 5, none⟩ = some (.slice k2.a (lenF k2.l) k2.c)) := hid (fun V hV u =>
      ⟨((HK2.out.p1.below hV).far (by omega) 0 u).c 0, ((HE2.out.below hV).far (by omega) 0 u).c 0, ((HE2.out.below hV).far (by omega) 0 u).c 1, ((HE2.out.below hV).far (by omega) 0 u).c 2, ((HE2.out.below hV).far (by omega) 0 u).c 3, ((HE2.out.below hV).far (by omega) 0 u).c 4, ((HE2.out.below hV).far (by omega) 0 u).c 5⟩)
    obtain ⟨i0, hi, hz1, hz2, hz3⟩ := info_parts Try.info28
    gi_wp2_with fail
    refine wpIn_mono (Q := fun e a' w' => e = .normal ∧ ∃ g3 cap3 w3, w' = w3.setCell ⟨B, 0, none⟩ (.slice (some ⟨g3, 0, none⟩) 1 cap3) ∧ Below W2.heap.size W2 w3 ∧ W2.heap.size ≤ g3 ∧ 1 ≤ cap3 ∧ CellsAt w3 g3 [k1, k2]) ?first ?rest
    case first =>
      refine wpIn_region_held (fun V => V.cell? ⟨w.heap.size, 0, none⟩ = some (.pointer (some ⟨B, 0, none⟩)) ∧ V.cell? ⟨W.heap.size, 0, none⟩ = some (.string k1.x.1) ∧ V.cell? ⟨W.heap.size, 1, none⟩ = some (.int .i64 k1.x.2) ∧ V.cell? ⟨W.heap.size, 2, none⟩ = some (.slice k1.a (lenF k1.l) k1.c) ∧ V.cell? ⟨W.heap.size, 3, none⟩ = some (.string k2.x.1) ∧ V.cell? ⟨W.heap.size, 4, none⟩ = some (.int .i64 k2.x.2) ∧ V.cell? ⟨W.heap.size, 5, none⟩ = some (.slice k2.a (lenF k2.l) k2.c)) (by kernel_rfl) (by kernel_rfl) (by rintro ⟨_, _, h, _⟩; cases h) (HSS.out _ (Below.refl _ _).drew) ?_
      intro hS
      refine wpAnyH_take (i := 0) (v := (.pointer (some ⟨B, 0, none⟩))) rfl (by kernel_rfl) (by kernel_rfl) (by kernel_rfl) (fun _ _ _ h => by cases h.1) (Or.inl ⟨by rfl, fun w' hw' => ?_⟩) hS ?_
      · have y0 := hw'.1; go_simp
      simp only [Act.put, List.getElem_toArray, List.getElem_cons_zero, List.setIfInBounds_toArray, List.set_cons_zero, List.set_cons_succ]
      refine wpAnyH_take (i := 1) (v := (.pointer (some ⟨B, 0, none⟩))) rfl (by kernel_rfl) (by kernel_rfl) (by kernel_rfl) (fun _ _ _ h => by cases h.1) (Or.inl ⟨by rfl, fun w' hw' => ?_⟩) hS ?_
      · have y0 := hw'.1; go_simp
      simp only [Act.put, List.getElem_toArray, List.getElem_cons_zero, List.getElem_cons_succ, List.setIfInBounds_toArray, List.set_cons_zero, List.set_cons_succ]
      refine wpAnyH_take (i := 2) (v := (.pointer (some ⟨B, 0, none⟩))) rfl (by kernel_rfl) (by kernel_rfl) (by kernel_rfl) (fun _ _ _ h => by cases h.1) (Or.inl ⟨by rfl, fun w' hw' => ?_⟩) hS ?_
      · go_simp
      simp only [Act.put, List.getElem_toArray, List.getElem_cons_zero, List.getElem_cons_succ, List.setIfInBounds_toArray, List.set_cons_zero, List.set_cons_succ]
      refine wpAnyH_take (i := 3) (v := (.pointer (some ⟨B, 0, none⟩))) rfl (by kernel_rfl) (by kernel_rfl) (by kernel_rfl) (fun _ _ _ h => by cases h.1) (Or.inl ⟨by rfl, fun w' hw' => ?_⟩) hS ?_
      · go_simp
      simp only [Act.put, List.getElem_toArray, List.getElem_cons_zero, List.getElem_cons_succ, List.setIfInBounds_toArray, List.set_cons_zero, List.set_cons_succ]
      refine wpAnyH_take (i := 5) (v := (.agg #[.string k1.x.1, .int .i64 k1.x.2, .slice k1.a (lenF k1.l) k1.c, .string k2.x.1, .int .i64 k2.x.2, .slice k2.a (lenF k2.l) k2.c])) rfl (by kernel_rfl) (by kernel_rfl) (by kernel_rfl) (fun _ _ _ h => by cases h.1) (Or.inl ⟨by rfl, fun w' hw' => ?_⟩) hS ?_
      · obtain ⟨_, y0, y1, y2, y3, y4, y5⟩ := hw'; go_simp
      simp only [Act.put, List.getElem_toArray, List.getElem_cons_zero, List.getElem_cons_succ, List.setIfInBounds_toArray, List.set_cons_zero, List.set_cons_succ]
      refine wpAnyH_ready (rs := [4, 6]) (by kernel_rfl) (by simp) ?_
      refine AllReadyH.cons rfl (fun K hK => ?_) (AllReadyH.cons rfl (fun K hK => ?_) AllReadyH.nil)
      · have bq : W2.drew.cell? ⟨B, 0, none⟩ = some (.slice none 0 0) := HB2.out.c 0
        go_simp
        refine hK.out _ _ hS (fun hS => ?_)
        clear hK K
        refine wpAnyH_ready (rs := [6]) (by kernel_rfl) (by simp) ?_
        refine AllReadyH.cons rfl (fun K hK => ?_) AllReadyH.nil
        go_simp
        refine hK.out _ _ (HSS.out _ (((Below.refl _ W2).alloc (Nat.le_refl _) _).drew)) (fun hS => ?_)
        clear hK K
        refine wpAnyH_ready (rs := [7]) (by kernel_rfl) (by simp) ?_
        refine AllReadyH.cons rfl (fun K hK => ?_) AllReadyH.nil
        refine step_append_lies _ (by rfl) _ _ 34 (by rfl) W2.heap.size 28 i0 _ 6 96 Try.underlying34 hi hz1 hz2 hz3 rfl (by decide) (.slice none 0 0) 0 [] (by rfl) (World.ownsRow_nil _ _ _ _) ⟨W2.heap.size, 0, none⟩ 1 1 (kvCells [k1, k2]) (by rfl) rfl (World.news_of_block (Box.new W2 28 #[.string k1.x.1, .int .i64 k1.x.2, .slice k1.a (lenF k1.l) k1.c, .string k2.x.1, .int .i64 k2.x.2, .slice k2.a (lenF k2.l) k2.c])) (six_one k1 k2) (by decide) (by decide) (by decide) (by simp) _ rfl ?_
        intro g3 cap3 w3 hown3 hgrow3 hat3 hlt3
        have hb3 : Below W2.heap.size W2 w3 := (((Below.refl _ W2).alloc (Nat.le_refl _) _).drew).grown hgrow3 (by simp) (fun k e => by cases e)
        have bx3 := HB2.out.below hb3
        have v0 := bx3.c 0
        have e0 := bx3.f 0
        refine hK.out _ _ (HSS.out _ hb3) (fun hS => ?_)
        clear hK K
        simp only [Act.put, List.getElem_toArray, List.getElem_cons_zero, List.getElem_cons_succ, List.setIfInBounds_toArray, List.set_cons_zero, List.set_cons_succ]
        refine wpAnyH_take (i := 8) (v := (.pointer (some ⟨B, 0, none⟩))) rfl (by kernel_rfl) (by kernel_rfl) (by kernel_rfl) (fun _ _ _ h => by cases h.1) (Or.inl ⟨by rfl, fun w' hw' => ?_⟩) hS ?_
        · go_simp
        simp only [Act.put, List.getElem_toArray, List.getElem_cons_zero, List.getElem_cons_succ, List.setIfInBounds_toArray, List.set_cons_zero, List.set_cons_succ]
        refine wpAnyH_take (i := 9) (v := (.pointer (some ⟨B, 0, none⟩))) rfl (by kernel_rfl) (by kernel_rfl) (by kernel_rfl) (fun _ _ _ h => by cases h.1) (Or.inl ⟨by rfl, fun w' hw' => ?_⟩) hS ?_
        · go_simp
        simp only [Act.put, List.getElem_toArray, List.getElem_cons_zero, List.getElem_cons_succ, List.setIfInBounds_toArray, List.set_cons_zero, List.set_cons_succ]
        refine wpAnyH_ready (rs := [10]) (by kernel_rfl) (by simp) ?_
        refine AllReadyH.cons rfl (fun K hK => ?_) AllReadyH.nil
        go_simp
        refine hK.out _ _ (HSX.out w3 hb3 _) (fun hS => ?_)
        clear hK K
        refine wpAnyH_done (by kernel_rfl) ?_ _
        exact ⟨rfl, g3, cap3, w3, rfl, hb3, (owns_cells (g := g3) hown3 rfl).1, own_cap1 hown3, fun i u hu => owns_cell0 hown3 hu⟩
      · go_simp
        refine hK.out _ _ (HSS.out _ (((Below.refl _ W2).alloc (Nat.le_refl _) _).drew)) (fun hS => ?_)
        clear hK K
        refine wpAnyH_ready (rs := [4]) (by kernel_rfl) (by simp) ?_
        refine AllReadyH.cons rfl (fun K hK => ?_) AllReadyH.nil
        have bq : (W2.alloc (.cells #[.string k1.x.1, .int .i64 k1.x.2, .slice k1.a (lenF k1.l) k1.c, .string k2.x.1, .int .i64 k2.x.2, .slice k2.a (lenF k2.l) k2.c] 28)).drew.cell? ⟨B, 0, none⟩ = some (.slice none 0 0) := (HB2.out.over (.cells #[.string k1.x.1, .int .i64 k1.x.2, .slice k1.a (lenF k1.l) k1.c, .string k2.x.1, .int .i64 k2.x.2, .slice k2.a (lenF k2.l) k2.c] 28)).c 0
        go_simp
        refine hK.out _ _ hS (fun hS => ?_)
        clear hK K
        refine wpAnyH_ready (rs := [7]) (by kernel_rfl) (by simp) ?_
        refine AllReadyH.cons rfl (fun K hK => ?_) AllReadyH.nil
        refine step_append_lies _ (by rfl) _ _ 34 (by rfl) W2.heap.size 28 i0 _ 6 96 Try.underlying34 hi hz1 hz2 hz3 rfl (by decide) (.slice none 0 0) 0 [] (by rfl) (World.ownsRow_nil _ _ _ _) ⟨W2.heap.size, 0, none⟩ 1 1 (kvCells [k1, k2]) (by rfl) rfl (World.news_of_block (Box.new W2 28 #[.string k1.x.1, .int .i64 k1.x.2, .slice k1.a (lenF k1.l) k1.c, .string k2.x.1, .int .i64 k2.x.2, .slice k2.a (lenF k2.l) k2.c])) (six_one k1 k2) (by decide) (by decide) (by decide) (by simp) _ rfl ?_
        intro g3 cap3 w3 hown3 hgrow3 hat3 hlt3
        have hb3 : Below W2.heap.size W2 w3 := (((Below.refl _ W2).alloc (Nat.le_refl _) _).drew).grown hgrow3 (by simp) (fun k e => by cases e)
        have bx3 := HB2.out.below hb3
        have v0 := bx3.c 0
        have e0 := bx3.f 0
        refine hK.out _ _ (HSS.out _ hb3) (fun hS => ?_)
        clear hK K
        simp only [Act.put, List.getElem_toArray, List.getElem_cons_zero, List.getElem_cons_succ, List.setIfInBounds_toArray, List.set_cons_zero, List.set_cons_succ]
        refine wpAnyH_take (i := 8) (v := (.pointer (some ⟨B, 0, none⟩))) rfl (by kernel_rfl) (by kernel_rfl) (by kernel_rfl) (fun _ _ _ h => by cases h.1) (Or.inl ⟨by rfl, fun w' hw' => ?_⟩) hS ?_
        · go_simp
        simp only [Act.put, List.getElem_toArray, List.getElem_cons_zero, List.getElem_cons_succ, List.setIfInBounds_toArray, List.set_cons_zero, List.set_cons_succ]
        refine wpAnyH_take (i := 9) (v := (.pointer (some ⟨B, 0, none⟩))) rfl (by kernel_rfl) (by kernel_rfl) (by kernel_rfl) (fun _ _ _ h => by cases h.1) (Or.inl ⟨by rfl, fun w' hw' => ?_⟩) hS ?_
        · go_simp
        simp only [Act.put, List.getElem_toArray, List.getElem_cons_zero, List.getElem_cons_succ, List.setIfInBounds_toArray, List.set_cons_zero, List.set_cons_succ]
        refine wpAnyH_ready (rs := [10]) (by kernel_rfl) (by simp) ?_
        refine AllReadyH.cons rfl (fun K hK => ?_) AllReadyH.nil
        go_simp
        refine hK.out _ _ (HSX.out w3 hb3 _) (fun hS => ?_)
        clear hK K
        refine wpAnyH_done (by kernel_rfl) ?_ _
        exact ⟨rfl, g3, cap3, w3, rfl, hb3, (owns_cells (g := g3) hown3 rfl).1, own_cap1 hown3, fun i u hu => owns_cell0 hown3 hu⟩
    case rest =>
      rintro e a' w' ⟨rfl, g3, cap3, w3, rfl, hb3, hg3, hc3, hcs3⟩
      have hLs : W0.heap.size + 1 < W2.heap.size := (Array.getElem?_eq_some_iff.1 HL2.out).1
      have hne : g3 ≠ B := by omega
      have hne2 : W0.heap.size + 1 ≠ B := by omega
      have hBx : Box (w3.setCell ⟨B, 0, none⟩ (.slice (some ⟨g3, 0, none⟩) 1 cap3)) B 63 #[.slice (some ⟨g3, 0, none⟩) 1 cap3, bd] := (HB2.out.below hb3).set 0 _
      have hof : ∀ q, q ≠ B → (w3.setCell ⟨B, 0, none⟩ (.slice (some ⟨g3, 0, none⟩) 1 cap3)).heap[q]? = w3.heap[q]? := fun q hq => Below.heap_setCell w3 ⟨B, 0, none⟩ _ q hq
      have hfr3 : Fr (fun q => q = B) w (w3.setCell ⟨B, 0, none⟩ (.slice (some ⟨g3, 0, none⟩) 1 cap3)) := fr_set1 (A := fun q => q = B) (HK2.out.low.trans (Fr.of_below hb3)) rfl 0 _
      have hcs4 : CellsAt (w3.setCell ⟨B, 0, none⟩ (.slice (some ⟨g3, 0, none⟩) 1 cap3)) g3 [k1, k2] := fun i u hu => (World.cell?_of_block (hof g3 hne)).trans (hcs3 i u hu)
      have hcg4 : CellsAt (w3.setCell ⟨B, 0, none⟩ (.slice (some ⟨g3, 0, none⟩) 1 cap3)) g [k1, k2] := fun i u hu => (World.cell?_of_block (hof g hgB)).trans (below_cell hb3 _ _ (HK2.out.cells i u hu))
      have hK3 : LyK w B w.heap.size (w.heap.size + 1) W0.heap.size bd g c k1 k2 (w3.setCell ⟨B, 0, none⟩ (.slice (some ⟨g3, 0, none⟩) 1 cap3)) :=
        ⟨hfr3, (hof _ (by omega)).trans (HK2.out.p1.below hb3), (hof _ (by omega)).trans (HK2.out.p2.below hb3), (hof _ (by omega)).trans ((hb3.block _ (by omega)).trans HK2.out.df), hcg4⟩
      have hL3 : (w3.setCell ⟨B, 0, none⟩ (.slice (some ⟨g3, 0, none⟩) 1 cap3)).heap[W0.heap.size + 1]? = some (.loop { r with state := .busy }) := (hof _ hne2).trans ((hb3.block _ hLs).trans HL2.out)
      generalize w3.setCell ⟨B, 0, none⟩ (.slice (some ⟨g3, 0, none⟩) 1 cap3) = W5 at hBx hof hfr3 hcs4 hcg4 hK3 hL3 ⊢
      refine ⟨hL3, rfl, ?_⟩
      rw [loop_again hr1 hr2]
      exact ⟨hK3.put (by omega) (by omega) (by omega) (by omega) (by omega) _, World.putObj_heap_same (Array.getElem?_eq_some_iff.1 hL3).1, g3, cap3, (World.putObj_heap_other (by omega)).trans hBx, hc3, by omega, put_cells hcs4 (by omega) _⟩
  · rintro e W ⟨⟨v, rfl⟩, hKW, hL, g2, c2, hb2, hc2, hg2, hcs2⟩
    have hz := HZ0.out
    have hgl : g < w.heap.size := World.block_lt_of_cell? w ⟨g, 0, none⟩ (HG.out 0 (.string k1.x.1) rfl)
    refine ⟨⟨v, rfl⟩, hKW.df, .inl ⟨hL, ?_⟩⟩
    have hK3 := hKW.put (L := W0.heap.size + 1) (by omega) (by omega) (by omega) (by omega) (by omega) (.loop { r with state := .exhausted })
    have hB3 : Box (W.putObj (W0.heap.size + 1) (.loop { r with state := .exhausted })) B 63 #[.slice (some ⟨g2, 0, none⟩) 1 c2, bd] := (World.putObj_heap_other (by omega)).trans hb2
    have hC3 : CellsAt (W.putObj (W0.heap.size + 1) (.loop { r with state := .exhausted })) g2 [k1, k2] := put_cells hcs2 (by omega) _
    have HK3 := hid hK3; have HB3 := hid hB3; have HC3 := hid hC3
    clear hKW hL hb2 hcs2 hK3 hB3 hC3 hK0 hL0 hB0 hbb hwb hr1 hr2 hr3 hr4 hr5 hr6 hr7
    generalize W.putObj (W0.heap.size + 1) (.loop { r with state := .exhausted }) = W4 at HK3 HB3 HC3 ⊢
    gi_wp2
    refine ⟨by simp, .inl ⟨_, _, rfl, run_takeDeferred HK3.out.df, ?_⟩⟩
    refine ⟨_, results_none rfl _ _ _, ⟨_, rfl⟩, ⟨g2, c2, (World.putObj_heap_other (by omega)).trans HB3.out, hc2, by omega, put_cells HC3.out (by omega) _⟩, ?_⟩
    exact fr_putl HK3.out.low (by omega) _
end Go.Proofs.Ytfnfbljijkjkjaa
/- Free of one equation of a variable and a constant: the head's question. -/
namespace Go.Proofs.Ytfnfbljijkjkjaa
open Go.RowKit Go.Deep

abbrev kX : Kv := ⟨(bX, 0), .nil, none, 0⟩
abbrev kA : Kv := ⟨(noS, 0), .nil, none, 0⟩
theorem kX_at (w : World) : TmAt w (bX, 0) none 0 .nil := ⟨⟨by decide, by simp [lenF], by simp, by simp [lenF]⟩, .inl rfl⟩
theorem look_head : lookP someL ((bX, 0), .nil) ((noS, 0), .nil) = setW bX ((noS, 0), .nil) := by kernel_rfl
theorem fr_below {A : Nat → Prop} {n0 : Nat} {w V W : World} (hb : Below n0 w V) (h : Fr A V W) (hA : ∀ q, A q → n0 ≤ q) (hn : n0 ≤ V.heap.size) : Below n0 w W := hb.trans (h.below hA hn)
def lenAt (w : World) (B : Nat) : Nat := match w.cell? ⟨B, 0, none⟩ with | some (.slice _ n _) => n | _ => 0

set_option maxRecDepth 100000 in
set_option maxHeartbeats 4000000 in
theorem free_head (S : Option Addr) (cap gl : Nat) (w : World) (hG : SigAt w S 5 someL) (hl : CellsAt w gl [kX, kA]) :
    Calls Try.prog 15 #[.slice S 5 cap, .slice (some ⟨gl, 0, none⟩) 1 1] w fun e w' => (∃ p c, e = .returned (.tuple #[.slice p 1 c, .bool true, .int .i64 0])) ∧ Below w.heap.size w w' := by
  have HG := hid hG; have HL := hid hl
  have h0 : w.cell? ⟨gl, 0, none⟩ = some (.string bX) := hl 0 _ rfl
  have h1 : w.cell? ⟨gl, 1, none⟩ = some (.int .i64 0) := hl 1 _ rfl
  have h2 : w.cell? ⟨gl, 2, none⟩ = some (.slice none 0 0) := hl 2 _ rfl
  have h3 : w.cell? ⟨gl, 3, none⟩ = some (.string noS) := hl 3 _ rfl
  have h4 : w.cell? ⟨gl, 4, none⟩ = some (.int .i64 0) := hl 4 _ rfl
  have h5 : w.cell? ⟨gl, 5, none⟩ = some (.slice none 0 0) := hl 5 _ rfl
  clear hG hl
  go_enter Try.func15, Try.ntmps15
  go_wp2_with fail
  go_loopw [15] (fun i wr => ∃ j : Nat, j ≤ 1 ∧ i = .int .i64 j ∧ Below w.heap.size w wr) (fun i _ => 1 - (intOf i).toNat)
  case atStart => exact ⟨0, by omega, rfl, Below.refl _ _⟩
  case round =>
    obtain ⟨j, hj, rfl, hb⟩ := hrel
    have HB := hid hb
    by_cases hlt : j < 1
    · obtain rfl : j = 0 := by omega
      have q0 := below_cell hb _ _ h0; have q1 := below_cell hb _ _ h1; have q2 := below_cell hb _ _ h2; have q3 := below_cell hb _ _ h3; have q4 := below_cell hb _ _ h4; have q5 := below_cell hb _ _ h5
      have hE := alloc_below0 wr (.cells #[.string bX, .int .i64 0, .slice none 0 0, .string noS, .int .i64 0, .slice none 0 0] 28)
      have HE := hid hE
      have HBX := hid (Box.new wr 28 #[.string bX, .int .i64 0, .slice none 0 0, .string noS, .int .i64 0, .slice none 0 0])
      have HA := hid fun (W : World) (hW : Below wr.heap.size wr W) => allFree_leaf S 5 cap someL (bX, 0) W (HG.out.below (HB.out.trans (hW.mono HB.out.size))) (by decide +kernel)
      have HC := hid fun (W : World) (hW : Below wr.heap.size wr W) => allFree_leaf S 5 cap someL (noS, 0) W (HG.out.below (HB.out.trans (hW.mono HB.out.size))) (by decide +kernel)
      clear hb hE
      go_wp2_with (first
        | (go_at_call 30; (with_reducible refine (HC.out _ HE1.out).mono ?_); rintro e w2 ⟨rfl, hb2⟩; have HE2 := hid (HE1.out.trans (hb2.mono HE1.out.size)); clear hb2)
        | (go_at_call 30; (with_reducible refine (HA.out _ HE.out).mono ?_); rintro e w1 ⟨rfl, hb1⟩; have HE1 := hid (HE.out.trans (hb1.mono HE.out.size)); have X1 := HBX.out.below hb1; have z3 := X1.c 3; have z4 := X1.c 4; have z5 := X1.c 5; clear hb1 X1))
      go_roundw
      case rel => exact ⟨1, by omega, by go_num, HB.out.trans (HE2.out.mono HB.out.size)⟩
      case measure => simp [intOf]
    · obtain rfl : j = 1 := by omega
      have hbS := alloc_below0 wr (.cells #[.slice none 0 0, .slice none 0 0] 63)
      have HBS := hid hbS
      have hSB := Box.new wr 63 #[.slice none 0 0, .slice none 0 0]
      have hgl : gl < wr.heap.size := Nat.lt_of_lt_of_le (World.block_lt_of_cell? w ⟨gl, 0, none⟩ h0) hb.size
      have HLY := hid (lay_one wr.heap.size gl 1 (.slice none 0 0) _ kX kA hSB ((HL.out.below HB.out).below hbS) (by omega))
      have HBW := hid (HB.out.trans (hbS.mono HB.out.size))
      have HWS : Hid (w.heap.size ≤ wr.heap.size) := hid hb.size
      clear hb hbS hSB
      go_wp2_with (go_at_call 31; refine HLY.out.mono ?_; rintro e w1 ⟨⟨v, rfl⟩, ⟨g2, c2, hb2, hc2, hg2, hcs2⟩, hf1⟩; have HB2 := hid hb2; have HC2 := hid hc2; have HCS := hid hcs2; have HB1 := hid (fr_below HBW.out hf1 (fun q hq => by have := HWS.out; omega) HBW.out.size); have HG2 : Hid (wr.heap.size + 1 ≤ g2) := hid (by simp at hg2; omega); clear hb2 hc2 hg2 hcs2 hf1)
      clear HLY HL h0 h1 h2 h3 h4 h5
      go_loopw [10] (fun _ W => (Below w.heap.size w W ∧ ∃ g2 c2, Box W wr.heap.size 63 #[.slice (some ⟨g2, 0, none⟩) 1 c2, .slice none 0 0] ∧ 1 ≤ c2 ∧ CellsAt W g2 [kX, kA] ∧ wr.heap.size + 1 ≤ g2) ∨
          (Below w.heap.size w W ∧ ∃ p c g3 c3 a d, Box W wr.heap.size 63 #[.slice p 0 c, .slice (some ⟨g3, 0, none⟩) 1 c3] ∧ W.cell? ⟨g3, 0, none⟩ = some (.string bX) ∧ W.cell? ⟨g3, 1, none⟩ = some (.string noS) ∧ W.cell? ⟨g3, 2, none⟩ = some (.int .i64 0) ∧ W.cell? ⟨g3, 3, none⟩ = some (.slice a 0 d) ∧ TmAt W (noS, 0) a d .nil)) (fun _ W => lenAt W wr.heap.size)
      case atStart => exact .inl ⟨HB1.out, g2, c2, HB2.out, HC2.out, HCS.out, HG2.out⟩
      case round =>
        rename World => W
        rcases hrel with ⟨hb, g4, c4, hbx, hc4, hcs4, hg4⟩ | ⟨hb, p, c, g3, c3, a, d, hbx, k0, k1, k2, k3, hT⟩
        · have HBR := hid hb; have HBX := hid hbx
          have HTK := hid (take_one wr.heap.size g4 c4 _ W kX kA hbx hc4 hcs4)
          clear hb hbx hc4 hcs4 HB1 HB2 HC2 HCS
          go_wp2_with (go_at_call 32; refine HTK.out.mono ?_; rintro e w3 ⟨rfl, hb3, hf3⟩; have HB3 := hid hb3; have HF3 := hid hf3; clear hb3 hf3)
          have hb4 := alloc_below0 w3 (.cells #[.string bX, .int .i64 0, .slice none (lenF .nil) 0, .string noS, .int .i64 0, .slice none (lenF .nil) 0] 28)
          have HW3 := hid (fr_below HBR.out HF3.out (fun q hq => by have := HWS.out; omega) HBR.out.size)
          have HW4 := hid (HW3.out.trans (hb4.mono HW3.out.size))
          have HB4 := hid (HB3.out.below hb4)
          have hlk := look_any S 5 cap someL ((bX, 0), .nil) ((noS, 0), .nil) none none 0 0 _ _ (HG.out.below HW4.out) (kX_at _) (zT_at _) (Below.refl _ _) (by simp [nodesF]) (by simp [nodesF])
          rw [look_head] at hlk
          refine hlk.mono ?_
          clear hlk hb4
          generalize w3.alloc (.cells #[.string bX, .int .i64 0, .slice none (lenF .nil) 0, .string noS, .int .i64 0, .slice none (lenF .nil) 0] 28) = W4 at HW4 HB4 ⊢
          rintro e w5 ⟨⟨v, rfl, hv⟩, hb5⟩
          obtain ⟨⟨⟨tn, ts⟩, tl, ta, tc⟩, ks, la, lc, rfl, htk, hT, _, _, _⟩ := hv.is
          have e1 : (tn, ts) = (noS, (0 : Int)) := congrArg Prod.fst htk
          have e2 : tl = .nil := congrArg Prod.snd htk
          cases e1
          subst e2
          dsimp only at hT
          have hT5 := hT.below hb5
          have HW5 := hid (HW4.out.trans (hb5.mono HW4.out.size))
          have HB5 := hid (HB4.out.below hb5)
          have hb6 := alloc_below0 w5 (.cells (wayC 3 bX (noS, 0) ta (lenF .nil) tc la 0 lc 0) 36)
          have HBX6 := hid (Box.new w5 36 (wayC 3 bX (noS, 0) ta (lenF .nil) tc la 0 lc 0))
          have HW6 := hid (HW5.out.trans (hb6.mono HW5.out.size))
          have HST := hid (set_one wr.heap.size c4 (some ⟨g4, 0, none⟩) _ bX ((noS, 0), .nil) ta tc (HB5.out.below hb6) (hT5.below hb6) (by simp [nodesF]))
          have HT6 := hid (hT5.below hb6)
          have HLN : Hid (lenAt W wr.heap.size = 1) := hid (by unfold lenAt; rw [show W.cell? ⟨wr.heap.size, 0, none⟩ = some (.slice (some ⟨g4, 0, none⟩) 1 c4) from HBX.out.c 0])
          clear hv htk hT hT5 hb5 hb6 HTK
          simp only [setW, List.length_nil]
          unfold wayC at *
          go_wp2_with (go_at_call 34; refine HST.out.mono ?_; rintro e w7 ⟨rfl, ⟨g3, c3, b2, hbg, hbb, hb7, hc7, ho7⟩, hf7⟩; have HB7 := hid hb7; have HO7 := hid ho7; have HF7 := hid hf7; clear hb7 ho7 hf7)
          go_roundw
          case rel =>
            refine .inr ⟨fr_below HW6.out HF7.out (fun q hq => by have := HWS.out; omega) HW6.out.size, _, _, g3, c3, ta, tc, HB7.out, owns_cell0 HO7.out rfl, owns_cell0 HO7.out rfl, owns_cell0 HO7.out rfl, owns_cell0 HO7.out rfl, ?_⟩
            exact ⟨HT6.out.sizes, .inl rfl⟩
          case measure =>
            rw [HLN.out]
            unfold lenAt
            rw [show w7.cell? ⟨wr.heap.size, 0, none⟩ = some (.slice (some ⟨g4, 0, none⟩) 0 c4) from HB7.out.c 0]
            exact Nat.zero_lt_one
        · have HBR := hid hb
          have HTN := hid (take_none wr.heap.size c p _ W hbx)
          have HBX := hid hbx
          clear hb HB1 HB2 HC2 HCS
          go_wp2_with (first
            | (go_at_call 32; refine HTN.out.mono ?_; rintro e w3 ⟨rfl, hb3⟩; have hb4 := alloc_below0 w3 (.cells #[.string ⟨#[]⟩, .int .i64 0, .slice none 0 0, .string ⟨#[]⟩, .int .i64 0, .slice none 0 0] 28); have hb34 := hb3.trans (hb4.mono hb3.size); have HW4 := hid (HBR.out.trans (hb34.mono HBR.out.size)); have HTD := hid (told_one wr.heap.size g3 c3 _ _ bX ((noS, 0), .nil) a d (HBX.out.below hb34) (below_cell hb34 _ _ k0) (below_cell hb34 _ _ k1) (below_cell hb34 _ _ k2) (below_cell hb34 _ _ k3) (hT.below hb34)); clear hb3 hb4 hb34)
            | (go_at_call 33; refine HTD.out.mono ?_; rintro e w6 ⟨⟨p6, c6, rfl⟩, hb6⟩; have HW6 := hid (HW4.out.trans (hb6.mono HW4.out.size)); clear hb6))
          go_ret3
          exact ⟨⟨_, _, rfl⟩, HW6.out⟩
end Go.Proofs.Ytfnfbljijkjkjaa
/- The statements' head: the program is there. -/
namespace Go.Proofs.Ytfnfbljijkjkjaa
open Go.RowKit Go.Deep

theorem one_head : oneP someL ((bX, 0), .nil) ((noS, 0), .nil) = setW bX ((noS, 0), .nil) := by kernel_rfl
set_option maxRecDepth 100000 in
set_option maxHeartbeats 4000000 in
theorem head_ok : HeadOk := by
  intro w
  have H18 := hid fun W => some_any W
  go_enter Try.func6, Try.ntmps6
  go_wp2_with (first
    | (go_at_call 18; (with_reducible refine (H18.out _).mono ?_); rintro e w1 ⟨g1, rfl, hs1, hb1⟩; first
        | (have HB3 := hid (HB2.out.trans (hb1.mono HB2.out.size)); have HS3 := hid hs1; have HY3 := hid (HY2.out.below hb1); clear hs1 hb1)
        | (have HB1 := hid hb1; have HS1 := hid hs1; clear hs1 hb1))
    | (go_at_call 8; refine (one_any _ 5 5 someL ((bX, 0), .nil) ((noS, 0), .nil) none none 0 0 _ HS1.out (kX_at _) (zT_at _) (by simp [nodesF]) (by simp [nodesF])).mono ?_; rw [one_head]; rintro e w2 ⟨⟨v, rfl, hv⟩, hb2⟩; obtain ⟨⟨⟨tn, ts⟩, tl, ta, tc⟩, ks, la, lc, rfl, htk, hy1, hy2, hy3⟩ := hv.is; clear hy1 hy2 hy3; have e1 : (tn, ts) = (noS, (0 : Int)) := congrArg Prod.fst htk; have e2 : tl = .nil := congrArg Prod.snd htk; cases e1; subst e2; have hb2' := hb2.trans ((alloc_below0 w2 (.cells (wayC 3 bX (noS, 0) ta (lenF .nil) tc la 0 lc 0) 36)).mono hb2.size); have HB2 := hid (HB1.out.trans (hb2'.mono HB1.out.size)); have HY2 := hid (Box.new w2 36 (wayC 3 bX (noS, 0) ta (lenF .nil) tc la 0 lc 0)); clear hv htk hb2 hb2'; simp only [setW, List.length_nil]; unfold wayC at *))
  have hb4 := alloc_below0 w1 (.cells #[.string bX, .int .i64 0, .slice none 0 0, .string noS, .int .i64 0, .slice none 0 0] 28)
  have hx4 := Box.new w1 28 #[.string bX, .int .i64 0, .slice none 0 0, .string noS, .int .i64 0, .slice none 0 0]
  have hcs : CellsAt (w1.alloc (.cells #[.string bX, .int .i64 0, .slice none 0 0, .string noS, .int .i64 0, .slice none 0 0] 28)) w1.heap.size [kX, kA] := fun i u hu => by
    rw [hx4.c i]
    have e : kvCells [kX, kA] = [.string bX, .int .i64 0, .slice none 0 0, .string noS, .int .i64 0, .slice none 0 0] := rfl
    rw [e] at hu
    simpa using hu
  have HB4 := hid (HB3.out.trans (hb4.mono HB3.out.size))
  have HY4 := hid (HY3.out.below hb4)
  refine (free_head _ 5 w1.heap.size _ (HS3.out.below hb4) hcs).mono ?_
  rintro e w5 ⟨⟨p5, c5, rfl⟩, hb5⟩
  have HB5 := hid (HB4.out.trans (hb5.mono HB4.out.size))
  have Y5 := HY4.out.below hb5
  have z0 : w5.cell? ⟨w2.heap.size, 0, none⟩ = some (.int .i64 3) := Y5.c 0
  have z1 : w5.cell? ⟨w2.heap.size, 1, none⟩ = some (.string ⟨#[88]⟩) := Y5.c 1
  have z2 : w5.cell? ⟨w2.heap.size, 2, none⟩ = some (.string ⟨#[]⟩) := Y5.c 2
  clear hb4 hx4 hcs hb5 Y5
  go_wp2_with fail
  go_ret
  exact ⟨rfl, HB5.out⟩
end Go.Proofs.Ytfnfbljijkjkjaa
/- For Free: terms that lie apart from the solver's own blocks; one variable put in, plainly; what is left of the room. -/
namespace Go.Proofs.Ytfnfbljijkjkjaa
open Go.RowKit Go.Deep

/-! ### plain: one variable's term put in -/
def eqN (nm : ByteArray) (x : ByteArray × Int) : Bool := x.1.toList == nm.toList
def w1F (nm : ByteArray) (T : Tn) : Fo → Fo
  | .nil => .nil
  | .node B O x l r => if eqN nm x = true then .node B O T.1 T.2 (w1F nm T r) else .node B O x (w1F nm T l) (w1F nm T r)
def w1N (nm : ByteArray) (T : Tn) (x : ByteArray × Int) (l : Fo) : Tn := if eqN nm x = true then T else (x, w1F nm T l)
def h1F (nm : ByteArray) : Fo → Bool
  | .nil => false
  | .node _ _ x l r => (eqN nm x || h1F nm l) || h1F nm r
def h1N (nm : ByteArray) (x : ByteArray × Int) (l : Fo) : Bool := eqN nm x || h1F nm l
theorem w1F_not (nm : ByteArray) (T : Tn) : ∀ {F : Fo}, h1F nm F = false → w1F nm T F = F
  | .nil, _ => rfl
  | .node B O x l r, h => by
    rw [h1F, Bool.or_eq_false_iff, Bool.or_eq_false_iff] at h
    rw [w1F, if_neg (by simp [h.1.1]), w1F_not nm T h.1.2, w1F_not nm T h.2]
theorem w1N_not {nm : ByteArray} {T : Tn} {x : ByteArray × Int} {l : Fo} (h : h1N nm x l = false) : w1N nm T x l = (x, l) := by
  unfold h1N at h
  rw [Bool.or_eq_false_iff] at h
  unfold w1N
  rw [if_neg (by simp [h.1]), w1F_not nm T h.2]
theorem w1F_len (nm : ByteArray) (T : Tn) : ∀ F : Fo, lenF (w1F nm T F) = lenF F
  | .nil => rfl
  | .node _ _ x l r => by
    unfold w1F
    split
    · simp only [lenF]; rw [w1F_len nm T r]
    · simp only [lenF]; rw [w1F_len nm T r]
theorem w1F_kids (nm : ByteArray) (T : Tn) : ∀ F : Fo, kidsL (w1F nm T F) = (kidsL F).map fun y => w1N nm T y.1 y.2
  | .nil => rfl
  | .node _ _ x l r => by
    unfold w1F
    by_cases h : eqN nm x = true
    · rw [if_pos h]
      simp only [kidsL, List.map_cons]
      rw [w1F_kids nm T r]
      unfold w1N
      rw [if_pos h]
    · rw [if_neg h]
      simp only [kidsL, List.map_cons]
      rw [w1F_kids nm T r]
      unfold w1N
      rw [if_neg h]
theorem h1F_kids (nm : ByteArray) : ∀ F : Fo, h1F nm F = (kidsL F).any fun y => h1N nm y.1 y.2
  | .nil => rfl
  | .node _ _ x l r => by
    rw [h1F, kidsL, List.any_cons, h1F_kids nm r]
    rfl
def l1F (nm : ByteArray) (N : Int) : Fo → Int → Int
  | .nil, r => r
  | .node _ _ x l s, r => if r < 0 then r else l1F nm N s (if eqN nm x = true then r - N else l1F nm N l (r - 1))
def l1N (nm : ByteArray) (N : Int) (x : ByteArray × Int) (l : Fo) (r : Int) : Int := if eqN nm x = true then r - N else l1F nm N l (r - 1)
theorem l1F_neg (nm : ByteArray) (N : Int) (F : Fo) (r : Int) (h : r < 0) : l1F nm N F r = r := by
  cases F with
  | nil => rfl
  | node => unfold l1F; rw [if_pos h]
theorem l1F_bd (nm : ByteArray) {N : Int} (hN : 0 ≤ N ∧ N ≤ 1048577) : ∀ (F : Fo) (r : Int), -1048578 ≤ r → -1048578 ≤ l1F nm N F r ∧ l1F nm N F r ≤ r
  | .nil, r, h => ⟨h, Int.le_refl _⟩
  | .node _ _ x l s, r, h => by
    unfold l1F
    split
    · omega
    · have h1 : -1048578 ≤ (if eqN nm x = true then r - N else l1F nm N l (r - 1)) ∧ (if eqN nm x = true then r - N else l1F nm N l (r - 1)) ≤ r := by
        split
        · omega
        · have := l1F_bd nm hN l (r - 1) (by omega)
          omega
      have h2 := l1F_bd nm hN s _ h1.1
      omega
theorem l1N_bd (nm : ByteArray) {N : Int} (hN : 0 ≤ N ∧ N ≤ 1048577) (x : ByteArray × Int) (l : Fo) (r : Int) (h : 0 ≤ r) : -1048578 ≤ l1N nm N x l r ∧ l1N nm N x l r ≤ r := by
  unfold l1N
  split
  · omega
  · have := l1F_bd nm hN l (r - 1) (by omega); omega

/-! ### memory -/
def is26 : Obj → Bool
  | .cells _ e _ => e == 26
  | _ => false
/-- The world without the blocks that S leaves out. -/
def offW (S : Nat → Obj → Bool) (w : World) : World := { w with heap := w.heap.mapIdx fun i o => if S i o = true then o else .cells #[] 0 }
theorem off_heap (S : Nat → Obj → Bool) (w : World) (b : Nat) : (offW S w).heap[b]? = (w.heap[b]?).map fun o => if S b o = true then o else .cells #[] 0 := by
  show (w.heap.mapIdx _)[b]? = _
  rw [Array.getElem?_mapIdx]
theorem off_cell {S : Nat → Obj → Bool} {w : World} {p : Addr} {v : Value} (h : (offW S w).cell? p = some v) : ∃ o, w.heap[p.block]? = some o ∧ S p.block o = true ∧ w.cell? p = some v := by
  unfold World.cell? at h ⊢
  rw [off_heap] at h
  cases ho : w.heap[p.block]? with
  | none => rw [ho] at h; cases h
  | some o =>
    rw [ho] at h
    simp only [Option.map_some] at h
    by_cases hs : S p.block o = true
    · rw [if_pos hs] at h
      exact ⟨o, rfl, hs, h⟩
    · rw [if_neg hs] at h
      simp at h
theorem off_of {S : Nat → Obj → Bool} {w : World} {p : Addr} {v : Value} {o : Obj} (ho : w.heap[p.block]? = some o) (hs : S p.block o = true) (h : w.cell? p = some v) : (offW S w).cell? p = some v := by
  unfold World.cell? at h ⊢
  rw [off_heap, ho, Option.map_some, if_pos hs]
  rw [ho] at h
  exact h
/-- A term that lies apart from what S leaves out. -/
abbrev TmO (S : Nat → Obj → Bool) (w : World) (x : ByteArray × Int) (a : Option Addr) (c : Nat) (l : Fo) : Prop := TmAt (offW S w) x a c l
theorem tmO_tm {S : Nat → Obj → Bool} {w : World} {x : ByteArray × Int} {a : Option Addr} {c : Nat} {l : Fo} (h : TmO S w x a c l) : TmAt w x a c l := h.kept fun _ _ hc => (off_cell hc).elim fun _ h => h.2.2
theorem tmO_move {S S' : Nat → Obj → Bool} {w w' : World} {x : ByteArray × Int} {a : Option Addr} {c : Nat} {l : Fo} (h : TmO S w x a c l) (k : ∀ b o, w.heap[b]? = some o → S b o = true → w'.heap[b]? = some o ∧ S' b o = true) : TmO S' w' x a c l := h.kept fun p v hc => by
  obtain ⟨o, h1, h2, h3⟩ := off_cell hc
  obtain ⟨h4, h5⟩ := k _ _ h1 h2
  exact off_of h4 h5 ((World.cell?_of_block (h4.trans h1.symm)).trans h3)
theorem tmO_below {S : Nat → Obj → Bool} {w w' : World} {x : ByteArray × Int} {a : Option Addr} {c : Nat} {l : Fo} (h : TmO S w x a c l) (hb : Below w.heap.size w w') : TmO S w' x a c l :=
  tmO_move h fun b _ ho hs => ⟨(hb.block b (Array.getElem?_eq_some_iff.1 ho).1).trans ho, hs⟩
theorem tmO_fr {S : Nat → Obj → Bool} {A : Nat → Prop} {w w' : World} {x : ByteArray × Int} {a : Option Addr} {c : Nat} {l : Fo} (h : TmO S w x a c l) (hf : Fr A w w') (hA : ∀ b o, A b → w.heap[b]? = some o → S b o = false) : TmO S w' x a c l :=
  tmO_move h fun b o ho hs => ⟨(hf.same b (Array.getElem?_eq_some_iff.1 ho).1 (fun ha => by rw [hA b o ha ho] at hs; cases hs)).trans ho, hs⟩
theorem tmO_new {S : Nat → Obj → Bool} {w : World} {x : ByteArray × Int} {a : Option Addr} {c : Nat} {l : Fo} (h : TmAt w x a c l) (hS : ∀ b o, b < w.heap.size → S b o = true) : TmO S w x a c l := h.kept fun p v hc => by
  have hlt := World.block_lt_of_cell? w p hc
  exact off_of (Array.getElem?_eq_getElem hlt) (hS _ _ hlt) hc
/-- Terms out of their cells. -/
theorem kids_build {w : World} {b : Nat} : ∀ (F : Fo) (ks : List Kv) (o : Nat), kidsL F = ks.map Kv.tn → (∀ i u, (kvCells ks)[i]? = some u → w.cell? ⟨b, o + i, none⟩ = some u) → (∀ k ∈ ks, TmAt w k.x k.a k.c k.l) → KidsAt w F b o
  | .nil, _, _, _, _, _ => trivial
  | .node B O x l r, [], _, h, _, _ => by simp [kidsL] at h
  | .node B O x l r, k :: ks, o, h, hc, ht => by
    simp only [kidsL, List.map_cons, List.cons.injEq] at h
    obtain ⟨h1, h2⟩ := h
    obtain ⟨kx, kl, ka, kc⟩ := k
    have e : (x, l) = (kx, kl) := h1
    cases e
    have t := ht ⟨x, l, ka, kc⟩ (by simp)
    have c0 := hc 0 _ rfl
    have c1 := hc 1 _ rfl
    have c2 := hc 2 _ rfl
    refine ⟨⟨ka, kc, c0, c1, c2, t.sizes, t.args⟩, kids_build r ks (o + 3) h2 (fun i u hu => ?_) (fun q hq => ht q (List.mem_cons_of_mem _ hq))⟩
    have := hc (i + 3) u (by
      have e : kvCells (⟨x, l, ka, kc⟩ :: ks) = .string x.1 :: .int .i64 x.2 :: .slice ka (lenF l) kc :: kvCells ks := rfl
      rw [e]
      simp only [List.getElem?_cons_succ]
      exact hu)
    rwa [show o + (i + 3) = o + 3 + i by omega] at this

/-! ### what is left of the room -/
def ptC (nm : ByteArray) (T : Tn) (a : Option Addr) (c : Nat) (N : Int) : Array Value := #[.string nm, .string T.1.1, .int .i64 T.1.2, .slice a (lenF T.2) c, .int .i64 N]
def Left1Ok (nm : ByteArray) (T : Tn) (ta : Option Addr) (tc : Nat) (N : Int) (k : Nat) : Prop := ∀ (x : ByteArray × Int) (l : Fo) (a : Option Addr) (c Q : Nat) (room : Int) (w : World), nodesF l ≤ k → TmAt w x a c l → Box w Q 92 (ptC nm T ta tc N) → 0 ≤ room → room ≤ 400 →
  Calls Try.prog 97 #[.pointer (some ⟨Q, 0, none⟩), .agg #[.string x.1, .int .i64 x.2, .slice a (lenF l) c], .int .i64 room] w fun e w' => e = .returned (.int .i64 (l1N nm N x l room)) ∧ Below w.heap.size w w'
set_option maxRecDepth 100000 in
set_option maxHeartbeats 2000000 in
theorem left1_all (nm : ByteArray) (T : Tn) (ta : Option Addr) (tc : Nat) {N : Int} (hN : 0 ≤ N ∧ N ≤ 1048577) : ∀ k, Left1Ok nm T ta tc N k := by
  intro k
  induction k using Nat.strongRecOn with
  | _ k ih =>
    intro x l a c Q room w hk hT hQ hr0 hr4
    have HT := hid hT
    have HQ := hid hQ
    have IH : Hid (∀ j, j < k → Left1Ok nm T ta tc N j) := ih
    have O0 := hid (One.new w x a (lenF l) c)
    have hn0 := len_nodes l
    have hb0 := alloc_below0 w (.cells #[.string x.1, .int .i64 x.2, .slice a (lenF l) c] 26)
    have t0 := O0.out.t.c0
    have q0 : (w.alloc (.cells #[.string x.1, .int .i64 x.2, .slice a (lenF l) c] 26)).cell? ⟨Q, 0, none⟩ = some (.string nm) := (hQ.below hb0).c 0
    have q4 : (w.alloc (.cells #[.string x.1, .int .i64 x.2, .slice a (lenF l) c] 26)).cell? ⟨Q, 4, none⟩ = some (.int .i64 N) := (hQ.below hb0).c 4
    have hln : lenF l ≤ 2932031007402 := by have := hT.sizes.few; omega
    have hN1 := hN.1; have hN2 := hN.2
    clear hT ih hQ hb0
    go_enter Try.func97, Try.ntmps97
    go_upto_region 1 with fail
    generalize w.alloc (.cells #[.string x.1, .int .i64 x.2, .slice a (lenF l) c] 26) = V at O0 t0 q0 q4 ⊢
    have hls := later_some V
    have k0 := later_cell t0
    have k1 := later_cell q0
    refine wp_region_later (by kernel_rfl) (by kernel_rfl) ?_
    repeat (go_big_quiet_step (fail))
    refine wpQuiet_nil ?_
    intro _ hw'
    obtain ⟨v2, hw''⟩ := hw'
    subst hw''
    have O1 := hid (O0.out.below v2.below)
    have q5 := below_cell v2.below _ _ q4
    have HQ1 := hid (HQ.out.below (O0.out.low.trans (v2.below.mono O0.out.low.size)))
    clear k0 k1 hls t0 q0 q4
    generalize v2.now = V2 at O1 q5 HQ1 ⊢
    clear v2 O0
    cases heq : (x.1.toList == nm.toList)
    case true =>
      have e1 : l1N nm N x l room = room - N := by unfold l1N eqN; rw [heq, if_pos rfl]
      have HE1 := hid e1
      clear e1
      go_wp2_with fail
      go_ret
      exact ⟨by rw [HE1.out] <;> rfl, O1.out.low⟩
    case false =>
      have e1 : l1N nm N x l room = l1F nm N l (room - 1) := by unfold l1N eqN; rw [heq, if_neg (by simp)]
      have HE1 := hid e1
      clear e1
      have t2 := O1.out.t.c2
      go_wp2_with fail
      go_loopw [2, 28] (fun rv iv wr => ∃ (j : Nat) (r : Int), j ≤ lenF l ∧ rv = .int .i64 r ∧ iv = .int .i64 j ∧ -1048578 ≤ r ∧ r ≤ 400 ∧ One w x a (lenF l) c wr ∧ l1F nm N (dropF j l) r = l1F nm N l (room - 1)) (fun _ iv _ => lenF l - (intOf iv).toNat)
      case atStart => exact ⟨0, room - 1, Nat.zero_le _, rfl, rfl, by omega, by omega, O1.out, by rw [drop_zero]⟩
      case round =>
        obtain ⟨j, r, hj, rfl, rfl, hr1, hr2, hO, hm⟩ := hrel
        have HO := hid hO
        by_cases hlt : j < lenF l
        · obtain ⟨b1, o1, rfl, hk1⟩ := HT.out.args.get (by omega)
          obtain ⟨z, a1, c1, l1, kd⟩ := hk1.kid (k := j) hlt
          have kd' := kd.below hO.low
          obtain ⟨B1, O1', s1⟩ := kd.split
          rw [s1] at hm
          have p0 := kd'.name; have p1 := kd'.sym; have p2 := kd'.list
          by_cases hr : r < 0
          · rw [l1F_neg _ _ _ r hr] at hm
            clear kd kd' s1 hk1 hO
            go_wp2_with fail
            go_ret
            exact ⟨by rw [HE1.out, ← hm] <;> rfl, HO.out.low.trans ((alloc_below0 wr _).mono HO.out.low.size)⟩
          · have hal := alloc_below0 wr (.cells #[.string z.1, .int .i64 z.2, .slice a1 (lenF l1) c1] 26)
            have HC := hid (IH.out (nodesF l1) (by have := kd.less; omega) z l1 a1 c1 Q r _ (Nat.le_refl _) (kd'.at_.below hal) ((HQ.out.below hO.low).below hal) (by omega) hr2)
            have hstep : l1F nm N (dropF (j + 1) l) (l1N nm N z l1 r) = l1F nm N l (room - 1) := by
              rw [← hm]
              conv => rhs; unfold l1F
              rw [if_neg hr]
              rfl
            have HS := hid hstep
            have hbd := l1N_bd nm hN z l1 r (by omega)
            have HAL := hid hal
            clear kd kd' s1 hk1 hO hstep hal
            go_wp2_with fail
            refine HC.out.mono ?_
            rintro e w3 ⟨rfl, hb3⟩
            have HO4 := hid (HO.out.below (HAL.out.trans (hb3.mono HAL.out.size)))
            clear hb3 p0 p1 p2
            go_wp2_with fail
            go_roundw
            case rel => exact ⟨j + 1, l1N nm N z l1 r, by omega, rfl, by go_num, hbd.1, by omega, HO4.out, HS.out⟩
            case measure => simp [intOf]; omega
        · have e1 : j = lenF l := by omega
          rw [e1, drop_end] at hm
          have hm' : r = l1F nm N l (room - 1) := hm
          clear hO
          go_wp2_with fail
          go_ret
          exact ⟨by rw [HE1.out, ← hm'] <;> rfl, HO.out.low⟩
end Go.Proofs.Ytfnfbljijkjkjaa
/- slices.Clone of terms. -/
namespace Go.Proofs.Ytfnfbljijkjkjaa
open Go.RowKit Go.Shelf Go.Deep

/-- Terms' cells out of terms. -/
theorem kids_kvs {w : World} : ∀ {F : Fo} {b o : Nat}, KidsAt w F b o → ∃ ks : List Kv, ks.map Kv.tn = kidsL F ∧ (∀ i u, (kvCells ks)[i]? = some u → w.cell? ⟨b, o + i, none⟩ = some u) ∧ ∀ k ∈ ks, TmAt w k.x k.a k.c k.l
  | .nil, _, _, _ => ⟨[], rfl, fun i u h => by simp [kvCells] at h, fun k hk => by cases hk⟩
  | .node B O x l r, b, o, ⟨⟨a, c, h0, h1, h2, hc, hl⟩, hr⟩ => by
    obtain ⟨ks, e1, e2, e3⟩ := kids_kvs hr
    refine ⟨⟨x, l, a, c⟩ :: ks, by simp only [List.map_cons, kidsL, e1]; rfl, fun i u hu => ?_, fun k hk => ?_⟩
    · have e : kvCells (⟨x, l, a, c⟩ :: ks) = .string x.1 :: .int .i64 x.2 :: .slice a (lenF l) c :: kvCells ks := rfl
      rw [e] at hu
      match i, hu with
      | 0, hu => cases hu; exact h0
      | 1, hu => cases hu; exact h1
      | 2, hu => cases hu; exact h2
      | i + 3, hu =>
        simp only [List.getElem?_cons_succ] at hu
        have := e2 i u hu
        rwa [show o + 3 + i = o + (i + 3) by omega] at this
    · rcases List.mem_cons.1 hk with rfl | hk
      · exact ⟨hc, hl⟩
      · exact e3 k hk
theorem kv_ones (ks : List Kv) : ∀ u ∈ kvCells ks, u.oneCell' = true := by
  intro u hu
  obtain ⟨k, _, hk⟩ := List.mem_flatMap.1 hu
  have e : k.cells = [.string k.x.1, .int .i64 k.x.2, .slice k.a (lenF k.l) k.c] := rfl
  rw [e] at hk
  simp only [List.mem_cons, List.not_mem_nil, or_false] at hk
  rcases hk with rfl | rfl | rfl <;> rfl
theorem fr_grown {w w' : World} {r : Option Nat} (h : w.grownBy w' r) : Fr (fun q => r = some q) w w' := ⟨⟨h.os, h.tape, h.output, h.size, fun k hk => absurd hk (Nat.not_lt_zero k)⟩, fun k hk hA => h.block k hk (fun e => hA e.symm)⟩
theorem below_grown {w W W' : World} {r : Option Nat} (hb : Below w.heap.size w W) (h : W.grownBy W' r) (hr : ∀ k, r = some k → w.heap.size ≤ k) : Below w.heap.size w W' :=
  hb.trans ⟨h.os, h.tape, h.output, h.size, fun k hk => h.block k (Nat.lt_of_lt_of_le hk hb.size) (fun e => by have := hr k e.symm; omega)⟩
set_option maxRecDepth 100000 in
set_option maxHeartbeats 2000000 in
theorem clone_terms (b o c : Nat) (ks : List Kv) (w : World) (hc : ∀ i u, (kvCells ks)[i]? = some u → w.cell? ⟨b, o + i, none⟩ = some u) (hn : ks.length ≤ 1048576) :
    Calls Try.prog 112 #[.slice (some ⟨b, o, none⟩) ks.length c] w fun e w' => ∃ v, e = .returned v ∧ w'.ownsRow w.heap.size 26 3 v ks.length (kvCells ks) ∧ Below w.heap.size w w' := by
  have h1 : (binOp .eql 24 (.slice (some ⟨b, o, none⟩) ks.length c) (.slice none 0 0)).run Try.prog w = .ok (.bool false) w := rfl
  have b1 := alloc_below0 w (.cells #[] 26)
  have hE : (w.alloc (.cells #[] 26)).ownsRow w.heap.size 26 3 (.slice (some ⟨w.heap.size, 0, none⟩) 0 0) 0 [] := ⟨rfl, .inr ⟨w.heap.size, 0, #[], rfl, Nat.le_refl _, World.alloc_heap_new w _, Nat.le_refl _, Nat.zero_le _, rfl, rfl⟩⟩
  obtain ⟨i0, hi0, hz0, hz1, hz2⟩ := info_parts Try.info26
  obtain ⟨v', w1, hr1, hA1, hG1, _, _⟩ := run_append_own_at (P := Try.prog) (w.alloc (.cells #[] 26)) w.heap.size 24 24 26 i0 _ 3 48 Try.underlying24 hi0 hz0 hz1 hz2 rfl (by decide) _ 0 [] hE ⟨b, o, none⟩ ks.length c (kvCells ks) (kvCells_len ks)
    (fun j u hu => by rw [Addr.add_lit]; exact below_cell b1 _ _ (hc j u hu)) (kv_ones ks) (by unfold maxLen; omega) (by omega) b1.size
  have hb1 : Below w.heap.size w w1 := below_grown b1 hG1 (fun k hk => by have h7 : some w.heap.size = some k := hk; have := Option.some.inj h7; omega)
  rw [Nat.zero_add] at hA1
  rw [List.nil_append] at hA1
  have HA1 := hid hA1; have HB1 := hid hb1
  clear hE hG1 hA1 hb1 b1 hc
  go_enter Try.func112, Try.ntmps112
  go_wp2_with (first
    | (at_builtin; refine Lib.wpList_append_run _ rfl _ _ _ _ rfl _ _ rfl rfl _ _ hr1 ?_; clear hr1)
    | fail)
  go_ret
  exact ⟨_, rfl, HA1.out, HB1.out⟩
end Go.Proofs.Ytfnfbljijkjkjaa
/- Rows in which a term's cells are stored over. -/
namespace Go.Proofs.Ytfnfbljijkjkjaa
open Go.RowKit Go.Shelf Go.Deep

theorem owns_set1 {w : World} {base e size g n cap : Nat} {xs : List Value} (h : w.ownsRow base e size (.slice (some ⟨g, 0, none⟩) n cap) n xs) (o : Nat) (u : Value) : (w.setCell ⟨g, o, none⟩ u).ownsRow base e size (.slice (some ⟨g, 0, none⟩) n cap) n (xs.set o u) := by
  refine ⟨by rw [List.length_set]; exact h.1, ?_⟩
  rcases h.2 with ⟨h1, _⟩ | ⟨g', cap', cur, h1, h2, h3, h4, h5, h6, h7⟩
  · cases h1
  · cases h1
    refine .inr ⟨g, cap, cur.setIfInBounds o u, rfl, h2, block_set h3 u, h4, h5, by rw [Array.size_setIfInBounds]; exact h6, ?_⟩
    rw [Array.toList_setIfInBounds, List.take_set, h7]
theorem set_far {w : World} {g q : Nat} (h : q ≠ g) (o : Nat) (u : Value) : (w.setCell ⟨g, o, none⟩ u).heap[q]? = w.heap[q]? := Below.heap_setCell w ⟨g, o, none⟩ u q h
/-- Three cells stored. -/
def set3 (W : World) (g o : Nat) (k : Kv) : World := ((W.setCell ⟨g, o, none⟩ (.string k.x.1)).setCell ⟨g, o + 1, none⟩ (.int .i64 k.x.2)).setCell ⟨g, o + 2, none⟩ (.slice k.a (lenF k.l) k.c)
theorem set3_far {W : World} {g q : Nat} (h : q ≠ g) (o : Nat) (k : Kv) : (set3 W g o k).heap[q]? = W.heap[q]? := (set_far h _ _).trans ((set_far h _ _).trans (set_far h _ _))
theorem set3_size (W : World) (g o : Nat) (k : Kv) : (set3 W g o k).heap.size = W.heap.size := by simp [set3]
theorem set3_below {n0 : Nat} {w W : World} {g : Nat} (hb : Below n0 w W) (h : n0 ≤ g) (o : Nat) (k : Kv) : Below n0 w (set3 W g o k) :=
  ((hb.setCell (p := ⟨g, o, none⟩) h _).setCell (p := ⟨g, o + 1, none⟩) h _).setCell (p := ⟨g, o + 2, none⟩) h _
theorem set3_fr (W : World) (g o : Nat) (k : Kv) : Fr (fun q => q = g) W (set3 W g o k) := ⟨set3_below (Below.refl 0 W) (Nat.zero_le _) o k, fun _ _ hq => set3_far hq o k⟩
theorem kv_set : ∀ (ks : List Kv) (m : Nat) (k : Kv), m < ks.length → kvCells (ks.set m k) = (((kvCells ks).set (m * 3) (.string k.x.1)).set (m * 3 + 1) (.int .i64 k.x.2)).set (m * 3 + 2) (.slice k.a (lenF k.l) k.c)
  | [], m, k, h => absurd h (by simp)
  | q :: r, 0, k, _ => rfl
  | q :: r, m + 1, k, h => by
    have ih := kv_set r m k (by simpa using h)
    have e : kvCells (q :: r) = .string q.x.1 :: .int .i64 q.x.2 :: .slice q.a (lenF q.l) q.c :: kvCells r := rfl
    have e2 : kvCells ((q :: r).set (m + 1) k) = .string q.x.1 :: .int .i64 q.x.2 :: .slice q.a (lenF q.l) q.c :: kvCells (r.set m k) := rfl
    rw [e, e2, ih, show (m + 1) * 3 = m * 3 + 1 + 1 + 1 by omega, show m * 3 + 1 + 1 + 1 + 1 = (m * 3 + 1) + 1 + 1 + 1 by omega, show m * 3 + 1 + 1 + 1 + 2 = (m * 3 + 2) + 1 + 1 + 1 by omega]
    simp only [List.set_cons_succ]
theorem owns_set3 {w : World} {base e size g n cap : Nat} {ks : List Kv} (h : w.ownsRow base e size (.slice (some ⟨g, 0, none⟩) n cap) n (kvCells ks)) {m : Nat} (hm : m < ks.length) (k : Kv) : (set3 w g (m * 3) k).ownsRow base e size (.slice (some ⟨g, 0, none⟩) n cap) n (kvCells (ks.set m k)) := by
  rw [kv_set ks m k hm]
  exact owns_set1 (owns_set1 (owns_set1 h _ _) _ _) _ _
theorem owns_cellk {w : World} {base e size g n cap : Nat} {ks : List Kv} (h : w.ownsRow base e size (.slice (some ⟨g, 0, none⟩) n cap) n (kvCells ks)) {m : Nat} (hm : m < ks.length) :
    w.cell? ⟨g, m * 3, none⟩ = some (.string ks[m].x.1) ∧ w.cell? ⟨g, m * 3 + 1, none⟩ = some (.int .i64 ks[m].x.2) ∧ w.cell? ⟨g, m * 3 + 2, none⟩ = some (.slice ks[m].a (lenF ks[m].l) ks[m].c) := by
  obtain ⟨h0, h1, h2⟩ := kv_at ks m hm
  exact ⟨owns_cell0 h h0, owns_cell0 h h1, owns_cell0 h h2⟩
theorem owns_froz {w : World} {base e size g n cap : Nat} {xs : List Value} (h : w.ownsRow base e size (.slice (some ⟨g, 0, none⟩) n cap) n xs) (i : Nat) : w.frozen? ⟨g, i, none⟩ = false := by
  obtain ⟨_, cur, hc⟩ := owns_cells h (g := g) rfl
  simp [World.frozen?, hc]
theorem own_slice {w : World} {base e size n : Nat} {v : Value} {xs : List Value} (h : w.ownsRow base e size v n xs) (hn : 0 < n) : ∃ g cap, v = .slice (some ⟨g, 0, none⟩) n cap ∧ base ≤ g ∧ g < w.heap.size ∧ n ≤ cap := by
  rcases h.2 with ⟨_, h0⟩ | ⟨g, cap, cur, h1, h2, h3, h4, _⟩
  · omega
  · exact ⟨g, cap, h1, h2, (Array.getElem?_eq_some_iff.1 h3).1, h4⟩
theorem own_any {w : World} {base e size n : Nat} {v : Value} {xs : List Value} (h : w.ownsRow base e size v n xs) : ∃ p cap, v = .slice p n cap ∧ n ≤ cap ∧ cap ≤ maxLen ∧ (p = none ∨ ∃ g, p = some ⟨g, 0, none⟩) := by
  rcases h.2 with ⟨h1, h0⟩ | ⟨g, cap, cur, h1, h2, h3, h4, h5, _⟩
  · exact ⟨none, 0, by rw [h1, h0], by omega, Nat.zero_le _, .inl rfl⟩
  · exact ⟨_, cap, h1, h4, h5, .inr ⟨g, rfl⟩⟩
end Go.Proofs.Ytfnfbljijkjkjaa
