import Derived.Test.YtfnfbljijkjkjaaGreatKUfF
/- The solver in memory; putInSides. -/
namespace Go.Proofs.YtfnfbljijkjkjaaGreat
open Go.RowKit Go.Shelf Go.Deep

/-- Blocks that were there at the start, and rows of terms. -/
def S0 (N : Nat) : Nat → Obj → Bool := fun i o => decide (i < N) || is26 o
theorem S0_not {N g : Nat} {cs : Array Value} {e : TypeId} {fr : Nat × Nat} (h : N ≤ g) (he : e ≠ 26) : S0 N g (.cells cs e fr) = false := by
  unfold S0 is26
  simp only [Bool.or_eq_false_iff, decide_eq_false_iff_not, beq_eq_false_iff_ne]
  exact ⟨by omega, he⟩
abbrev Bk := ByteArray × Kv
def bdCells (bs : List Bk) : List Value := bs.flatMap fun b => .string b.1 :: b.2.cells
theorem bdCells_len (bs : List Bk) : (bdCells bs).length = bs.length * 4 := by
  induction bs with
  | nil => rfl
  | cons b r ih =>
    have e : bdCells (b :: r) = .string b.1 :: .string b.2.x.1 :: .int .i64 b.2.x.2 :: .slice b.2.a (lenF b.2.l) b.2.c :: bdCells r := rfl
    rw [e]; simp only [List.length_cons, ih]; omega
/-- The solver: its box, its rows; what it holds are terms that lie apart from them. -/
structure Sv (w0 : World) (B : Nat) (v1 v2 : Value) (n : Nat) (es : List Kv) (bs : List Bk) (W : World) : Prop where
  low : Below w0.heap.size w0 W
  hB : w0.heap.size ≤ B
  box : Box W B 72 #[v1, v2]
  len : es.length = 2 * n
  r1 : W.ownsRow (B + 1) 28 6 v1 n (kvCells es)
  r2 : W.ownsRow (B + 1) 38 4 v2 bs.length (bdCells bs)
  te : ∀ k ∈ es, TmO (S0 w0.heap.size) W k.x k.a k.c k.l
  tb : ∀ b ∈ bs, TmO (S0 w0.heap.size) W b.2.x b.2.a b.2.c b.2.l
theorem Sv.below {w0 : World} {B : Nat} {v1 v2 : Value} {n : Nat} {es : List Kv} {bs : List Bk} {W W' : World} (h : Sv w0 B v1 v2 n es bs W) (hb : Below W.heap.size W W') : Sv w0 B v1 v2 n es bs W' :=
  ⟨h.low.trans (hb.mono h.low.size), h.hB, h.box.below hb, h.len, owns_below h.r1 hb, owns_below h.r2 hb, fun k hk => tmO_below (h.te k hk) hb, fun b hbb => tmO_below (h.tb b hbb) hb⟩
theorem Sv.size {w0 : World} {B : Nat} {v1 v2 : Value} {n : Nat} {es : List Kv} {bs : List Bk} {W : World} (h : Sv w0 B v1 v2 n es bs W) : w0.heap.size ≤ W.heap.size := h.low.size
theorem row_ne {W : World} {base base' e e' z z' n n' g : Nat} {v v' : Value} {xs xs' : List Value} (h : W.ownsRow base e z v n xs) (h' : W.ownsRow base' e' z' v' n' xs') (he : e ≠ e') (hg : v.ownBlock = some g) : v'.ownBlock ≠ some g := fun hg' => by
  obtain ⟨_, c1, h1⟩ := owns_cells h hg
  obtain ⟨_, c2, h2⟩ := owns_cells h' hg'
  rw [h1] at h2
  exact he (by simpa using congrArg (fun o : Option Obj => match o with | some (.cells _ e _) => e | _ => 0) h2)
theorem row_box {W : World} {base e z n g T : Nat} {v : Value} {xs : List Value} {cs : Array Value} (h : W.ownsRow base e z v n xs) (hb : Box W g T cs) (he : e ≠ T) : v.ownBlock ≠ some g := fun hg => by
  obtain ⟨_, c1, h1⟩ := owns_cells h hg
  rw [show W.heap[g]? = _ from hb] at h1
  exact he (by simpa using (congrArg (fun o : Option Obj => match o with | some (.cells _ e _) => e | _ => 0) h1).symm)
theorem tmO_set3 {N : Nat} {W : World} {g o : Nat} {k : Kv} {cs : Array Value} {e : TypeId} {fr : Nat × Nat} (hg : N ≤ g) (hc : W.heap[g]? = some (.cells cs e fr)) (he : e ≠ 26) {x : ByteArray × Int} {a : Option Addr} {c : Nat} {l : Fo} (h : TmO (S0 N) W x a c l) : TmO (S0 N) (set3 W g o k) x a c l :=
  tmO_fr h (set3_fr W g o k) fun b ob hb ho => by
    subst hb
    rw [hc] at ho
    cases ho
    exact S0_not hg he
/-- A side that is stored over. -/
theorem Sv.side {w0 : World} {B : Nat} {v2 : Value} {n g cap : Nat} {es : List Kv} {bs : List Bk} {W W' : World} (h : Sv w0 B (.slice (some ⟨g, 0, none⟩) n cap) v2 n es bs W) {nm : ByteArray} {T : Tn} {m : Nat} (hm : m < es.length) (hp : PutTo (S0 w0.heap.size) nm T g (m * 3) es[m] W W') :
    ∃ k' : Kv, k'.tn = w1N nm T es[m].x es[m].l ∧ Sv w0 B (.slice (some ⟨g, 0, none⟩) n cap) v2 n (es.set m k') bs W' ∧ Fr (fun q => q = g) W W' := by
  obtain ⟨k', w1, h1, h2, h3, h4⟩ := hp
  have hs := h.below h2
  refine ⟨k', h1, ?_⟩
  rcases h4 with rfl | ⟨rfl, rfl⟩
  · obtain ⟨hg0, cur, hcur⟩ := owns_cells hs.r1 (g := g) rfl
    have hB := hs.hB
    have hBg : B ≠ g := fun e => by omega
    have hg : w0.heap.size ≤ g := by omega
    refine ⟨⟨set3_below hs.low hg _ _, hB, (set3_far hBg _ _).trans hs.box, by rw [List.length_set]; exact hs.len, owns_set3 hs.r1 hm k', owns_block hs.r2 (fun q hq => set3_far (fun e => by subst e; exact row_ne hs.r1 hs.r2 (by decide) rfl hq) _ _), fun k hk => ?_, fun b hb => tmO_set3 hg hcur (by decide) (hs.tb b hb)⟩, (Fr.of_below h2).trans (set3_fr w1 g _ k')⟩
    rcases List.mem_or_eq_of_mem_set hk with h5 | rfl
    · exact tmO_set3 hg hcur (by decide) (hs.te k h5)
    · exact tmO_set3 hg hcur (by decide) h3
  · rw [List.set_getElem_self]
    exact ⟨hs, Fr.of_below h2⟩
theorem map_set_tn {es es' : List Kv} {m : Nat} (hm : m < es.length) {f : Tn → Tn} {k : Kv} (h : es'.map Kv.tn = (es.take m).map (fun q => f q.tn) ++ (es.drop m).map Kv.tn) (hk : k.tn = f es[m].tn) : (es'.set m k).map Kv.tn = (es.take (m + 1)).map (fun q => f q.tn) ++ (es.drop (m + 1)).map Kv.tn := by
  have hl : ((es.take m).map (fun q => f q.tn)).length = m := by rw [List.length_map, List.length_take]; omega
  rw [List.map_set, h, List.drop_eq_getElem_cons hm, List.map_cons, List.set_append_right _ _ (by omega), hl, Nat.sub_self, List.set_cons_zero, List.take_succ_eq_append_getElem hm, List.map_append, List.append_assoc, hk]
  rfl
theorem map_at_tn {es es' : List Kv} {m : Nat} (hm : m < es.length) {f : Tn → Tn} (h : es'.map Kv.tn = (es.take m).map (fun q => f q.tn) ++ (es.drop m).map Kv.tn) : ∃ hm' : m < es'.length, (es'[m]'hm').tn = es[m].tn := by
  have hl : ((es.take m).map (fun q => f q.tn)).length = m := by rw [List.length_map, List.length_take]; omega
  have hl2 := congrArg List.length h
  rw [List.length_map, List.length_append, hl, List.length_map, List.length_drop] at hl2
  refine ⟨by omega, ?_⟩
  have := congrArg (fun l => l[m]?) h
  rw [List.getElem?_map, List.getElem?_eq_getElem (by omega), List.getElem?_append_right (by omega), hl, Nat.sub_self, List.drop_eq_getElem_cons hm, List.map_cons, List.getElem?_cons_zero, Option.map_some] at this
  exact Option.some.inj this
def roomK (nm : ByteArray) (N : Int) (k : Kv) : Bool := roomB nm N k.x k.l
def w1T (nm : ByteArray) (T : Tn) (t : Tn) : Tn := w1N nm T t.1 t.2

theorem side_no {nm : ByteArray} {T : Tn} {ta : Option Addr} {tc : Nat} {N : Int} (hN : 0 ≤ N ∧ N ≤ 1048577) {Q : Nat} {w0 : World} {B : Nat} {v2 : Value} {n g cap : Nat} {es : List Kv} {bs : List Bk} {W : World} (hS : Sv w0 B (.slice (some ⟨g, 0, none⟩) n cap) v2 n es bs W) (hQ : Box W Q 105 (ptC nm T ta tc N)) {m : Nat} (hm : m < es.length) (hr : roomK nm N es[m] = false) :
    Calls Tryz.prog 77 #[.pointer (some ⟨Q, 0, none⟩), .pointer (some ⟨g, m * 3, none⟩)] W fun e W' => e = .returned (.bool false) ∧ Below W.heap.size W W' := by
  obtain ⟨c0, c1, c2⟩ := owns_cellk hS.r1 hm
  exact putIn_no nm T ta tc hN Q g (m * 3) es[m] W hQ (tmO_tm (hS.te _ (List.getElem_mem hm))) c0 c1 c2 hr
theorem sv_seen (N : Nat) (W : World) : ∀ b o, W.heap.size ≤ b → is26 o = true → S0 N b o = true := fun b o _ ho => by unfold S0; rw [ho, Bool.or_true]
theorem side_yes {nm : ByteArray} {T : Tn} {ta : Option Addr} {tc : Nat} {N : Int} (hN : 0 ≤ N ∧ N ≤ 1048577) {Q : Nat} {w0 : World} {B : Nat} {v2 : Value} {n g cap : Nat} {es : List Kv} {bs : List Bk} {W : World} (hS : Sv w0 B (.slice (some ⟨g, 0, none⟩) n cap) v2 n es bs W) (hQ : Box W Q 105 (ptC nm T ta tc N)) (hTT : TmO (S0 w0.heap.size) W T.1 ta tc T.2) {m : Nat} (hm : m < es.length) (hM : nodesF es[m].l ≤ 1048576) (hr : roomK nm N es[m] = true) :
    Calls Tryz.prog 77 #[.pointer (some ⟨Q, 0, none⟩), .pointer (some ⟨g, m * 3, none⟩)] W fun e W' => e = .returned (.bool true) ∧ ∃ k' : Kv, k'.tn = w1T nm T es[m].tn ∧ Sv w0 B (.slice (some ⟨g, 0, none⟩) n cap) v2 n (es.set m k') bs W' ∧ Fr (fun q => q = g) W W' := by
  obtain ⟨c0, c1, c2⟩ := owns_cellk hS.r1 hm
  refine (putIn_yes (S0 w0.heap.size) nm T ta tc hN Q g (m * 3) es[m] W hQ (sv_seen _ W) (hS.te _ (List.getElem_mem hm)) hTT hM c0 c1 c2 (owns_froz hS.r1) hr).mono fun e W' ⟨he, hp⟩ => ⟨he, ?_⟩
  exact hS.side hm hp
/-- What is kept beside the rows. -/
theorem fr_box {W W' : World} {Q g T : Nat} {cs : Array Value} (hf : Fr (fun q => q = g) W W') (h : Box W Q T cs) (hne : Q ≠ g) : Box W' Q T cs := (hf.same Q h.lt hne).trans h
theorem all_no {α : Type} {f : α → Bool} {l : List α} {m : Nat} (hm : m < l.length) (h : f l[m] = false) : l.all f = false := by
  rw [List.all_eq_false]
  exact ⟨l[m], List.getElem_mem hm, by simp [h]⟩
theorem all_next {α : Type} {f : α → Bool} {l : List α} {m : Nat} (hm : m < l.length) (h : (l.take m).all f = true) (h2 : f l[m] = true) : (l.take (m + 1)).all f = true := by
  rw [List.take_succ_eq_append_getElem hm, List.all_append, h]
  simp [h2]

set_option maxRecDepth 100000 in
set_option maxHeartbeats 4000000 in
theorem sides_any (nm : ByteArray) (T : Tn) (ta : Option Addr) (tc : Nat) {N : Int} (hN : 0 ≤ N ∧ N ≤ 1048577) (Q : Nat) (w0 : World) (B : Nat) (v1 v2 : Value) (n : Nat) (es : List Kv) (bs : List Bk) (W : World) (hS : Sv w0 B v1 v2 n es bs W) (hQ : Box W Q 105 (ptC nm T ta tc N)) (hTT : TmO (S0 w0.heap.size) W T.1 ta tc T.2) (hn : n ≤ 1073741824) (hM : ∀ k ∈ es, nodesF k.l ≤ 1048576) :
    Calls Tryz.prog 55 #[.pointer (some ⟨B, 0, none⟩), .pointer (some ⟨Q, 0, none⟩)] W fun e W' => e = .returned (.bool (es.all (roomK nm N))) ∧ Below w0.heap.size w0 W' ∧ (es.all (roomK nm N) = true → Fr (fun q => v1.ownBlock = some q) W W' ∧ ∃ es' : List Kv, es'.map Kv.tn = es.map (fun k => w1T nm T k.tn) ∧ Sv w0 B v1 v2 n es' bs W') := by
  obtain ⟨p1, cap1, rfl, hcap, _, _⟩ := own_any hS.r1
  have HS := hid hS; have HQ := hid hQ; have HTT := hid hTT; have HM := hid hM
  have b0 := hS.box.c 0
  clear hS hQ hTT hM
  go_enter Tryz.func55, Tryz.ntmps55
  go_wp2_with fail
  go_loopw [12] (fun iv wr => ∃ (j : Nat) (es' : List Kv), j ≤ n ∧ iv = .int .i64 j ∧ Sv w0 B (.slice p1 n cap1) v2 n es' bs wr ∧ Fr (fun q => (Value.slice p1 n cap1).ownBlock = some q) W wr ∧ es'.map Kv.tn = (es.take (2 * j)).map (fun k => w1T nm T k.tn) ++ (es.drop (2 * j)).map Kv.tn ∧ (es.take (2 * j)).all (roomK nm N) = true) (fun iv _ => n - (intOf iv).toNat)
  case atStart => exact ⟨0, es, Nat.zero_le _, rfl, HS.out, Fr.refl _ _, by simp, rfl⟩
  case round =>
    obtain ⟨j, es', hj, rfl, hs, hfr, hmap, hall⟩ := hrel
    have HS2 := hid hs; have HFR := hid hfr; have HMAP := hid hmap; have HALL := hid hall
    by_cases hlt : j < n
    · obtain ⟨g, rfl⟩ : ∃ g, p1 = some ⟨g, 0, none⟩ := by
        obtain ⟨g, cap, e, _⟩ := own_slice hs.r1 (by omega)
        cases e
        exact ⟨g, rfl⟩
      have hel := HS.out.len
      have hm0 : 2 * j < es.length := by omega
      have hm1 : 2 * j + 1 < es.length := by omega
      obtain ⟨hm0', e0⟩ := map_at_tn hm0 hmap
      have hQg : Q ≠ g := fun e => row_box hs.r1 (T := 105) (g := Q) ((hfr.same Q HQ.out.lt (fun h => row_box HS.out.r1 HQ.out (by decide) h)).trans HQ.out) (by decide) (by rw [e]; rfl)
      have hQ1 : Box wr Q 105 (ptC nm T ta tc N) := (hfr.same Q HQ.out.lt (fun h => row_box HS.out.r1 HQ.out (by decide) h)).trans HQ.out
      have hT1 : TmO (S0 w0.heap.size) wr T.1 ta tc T.2 := tmO_fr HTT.out hfr (fun b o hb ho => by
        have hb' : some g = some b := hb
        cases hb'
        obtain ⟨h1, cur, h2⟩ := owns_cells HS.out.r1 (g := g) rfl
        rw [h2] at ho
        cases ho
        exact S0_not (by have := HS.out.hB; omega) (by decide))
      have b0' := hs.box.c 0
      have hx0 : roomK nm N es'[2 * j] = roomK nm N es[2 * j] := by
        have e2 : (es'[2 * j].x, es'[2 * j].l) = (es[2 * j].x, es[2 * j].l) := e0
        unfold roomK
        rw [(Prod.mk.inj e2).1, (Prod.mk.inj e2).2]
      cases hr0 : roomK nm N es[2 * j]
      case false =>
        have hc := side_no hN hs hQ1 hm0' (hx0.trans hr0)
        rw [show 2 * j * 3 = j * 6 by omega] at hc
        have HC := hid hc
        have HA := hid (all_no hm0 hr0)
        clear hc hs hfr hmap hall hQ1 hT1 hx0 e0
        go_wp2_with (go_at_call 77; refine HC.out.mono ?_; rintro e w3 ⟨rfl, hb3⟩; have HB3 := hid hb3; clear hb3)
        go_ret
        refine ⟨by rw [HA.out] <;> rfl, HS2.out.low.trans (HB3.out.mono HS2.out.low.size), fun h => by rw [HA.out] at h; cases h⟩
      case true =>
        have hl0 : nodesF es'[2 * j].l ≤ 1048576 := by
          have e2 : (es'[2 * j].x, es'[2 * j].l) = (es[2 * j].x, es[2 * j].l) := e0
          rw [(Prod.mk.inj e2).2]
          exact HM.out _ (List.getElem_mem hm0)
        have hc := side_yes hN hs hQ1 hT1 hm0' hl0 (hx0.trans hr0)
        rw [show 2 * j * 3 = j * 6 by omega] at hc
        have HC := hid hc
        have HE0 := hid e0; have HQ1 := hid hQ1; have HT1 := hid hT1
        have HR0 := hid hr0
        cases hr1 : roomK nm N es[2 * j + 1]
        case false =>
          have HA := hid (all_no hm1 hr1)
          have HR1 := hid hr1
          clear hc hs hfr hmap hall hQ1 hT1 hx0 e0 hr0 hr1
          go_wp2_with (first
            | (go_at_call 77; (with_reducible refine HC1.out.mono ?_); rintro e w4 ⟨rfl, hb4⟩; have HB4 := hid hb4; clear hb4)
            | (go_at_call 77; (with_reducible refine HC.out.mono ?_); rintro e w3 ⟨rfl, k', hk', hs3, hf3⟩; have hmp := map_set_tn hm0 HMAP.out (k := k') (hk'.trans (congrArg (w1T nm T) HE0.out)); obtain ⟨hm1', e1⟩ := map_at_tn hm1 hmp; have hc1 := side_no hN hs3 (fr_box hf3 HQ1.out hQg) hm1' (by have e2 : ((es'.set (2 * j) k')[2 * j + 1].x, (es'.set (2 * j) k')[2 * j + 1].l) = (es[2 * j + 1].x, es[2 * j + 1].l) := e1; unfold roomK; rw [(Prod.mk.inj e2).1, (Prod.mk.inj e2).2]; exact HR1.out); rw [show (2 * j + 1) * 3 = j * 6 + 3 by omega] at hc1; have HC1 := hid hc1; have HS3 := hid hs3; clear hs3 hf3 hc1 hmp e1 hk'))
          go_ret
          refine ⟨by rw [HA.out] <;> rfl, HS3.out.low.trans (HB4.out.mono HS3.out.low.size), fun h => by rw [HA.out] at h; cases h⟩
        case true =>
          have HR1 := hid hr1
          clear hc hs hfr hmap hall hQ1 hT1 hx0 e0 hr0 hr1
          go_wp2_with (first
            | (go_at_call 77; (with_reducible refine HC1.out.mono ?_); rintro e w4 ⟨rfl, k4, hk4, hs4, hf4⟩; have HK4 := hid hk4; have HS4 := hid hs4; have HF4 := hid hf4; clear hk4 hs4 hf4)
            | (go_at_call 77; (with_reducible refine HC.out.mono ?_); rintro e w3 ⟨rfl, k', hk', hs3, hf3⟩; have hmp := map_set_tn hm0 HMAP.out (k := k') (hk'.trans (congrArg (w1T nm T) HE0.out)); obtain ⟨hm1', e1⟩ := map_at_tn hm1 hmp; have e2 : ((es'.set (2 * j) k')[2 * j + 1].x, (es'.set (2 * j) k')[2 * j + 1].l) = (es[2 * j + 1].x, es[2 * j + 1].l) := e1; have hc1 := side_yes hN hs3 (fr_box hf3 HQ1.out hQg) (tmO_fr HT1.out hf3 (fun b o hb ho => by (subst hb; obtain ⟨h1, cur, h2⟩ := owns_cells HS2.out.r1 (g := b) rfl; rw [h2] at ho; cases ho; exact S0_not (by have := HS2.out.hB; omega) (by decide)))) hm1' (by rw [(Prod.mk.inj e2).2]; exact HM.out _ (List.getElem_mem hm1)) (by unfold roomK; rw [(Prod.mk.inj e2).1, (Prod.mk.inj e2).2]; exact HR1.out); rw [show (2 * j + 1) * 3 = j * 6 + 3 by omega] at hc1; have HC1 := hid hc1; have HMP := hid hmp; have HE1 := hid e1; have HF3 := hid hf3; clear hs3 hf3 hc1 hmp e1 e2 hk'))
          have hne : (es.take (2 * j + 1)).all (roomK nm N) = true := all_next hm0 HALL.out HR0.out
          have hne2 : (es.take (2 * j + 1 + 1)).all (roomK nm N) = true := all_next hm1 hne HR1.out
          have hmp2 := map_set_tn hm1 HMP.out (k := k4) (HK4.out.trans (congrArg (w1T nm T) HE1.out))
          have hfr2 : Fr (fun q => (Value.slice (some ⟨g, 0, none⟩) n cap1).ownBlock = some q) W w4 := HFR.out.trans ((HF3.out.trans HF4.out).mono (fun q hq => by rw [hq]; rfl))
          have HNE2 := hid hne2; have HMP2 := hid hmp2; have HFR2 := hid hfr2
          clear hne hne2 hmp2 hfr2
          go_roundw
          case rel => exact ⟨j + 1, _, by omega, by go_num, HS4.out, HFR2.out, HMP2.out, HNE2.out⟩
          case measure => simp [intOf]; omega
    · have e1 : j = n := by omega
      subst e1
      have hel := HS.out.len
      rw [← hel, List.take_length] at hmap hall
      rw [List.drop_length, List.map_nil, List.append_nil] at hmap
      have HA := hid hall; have HMP := hid hmap
      clear hs hfr hmap hall
      go_wp2_with fail
      go_ret
      exact ⟨by rw [HA.out] <;> rfl, HS2.out.low, fun _ => ⟨HFR.out, es', HMP.out, HS2.out⟩⟩
end Go.Proofs.YtfnfbljijkjkjaaGreat
