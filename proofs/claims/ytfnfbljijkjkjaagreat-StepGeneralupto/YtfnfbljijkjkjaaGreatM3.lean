/- Texts laid together: RJoins, TRCmp, RSort, RSorted, RLst, RParts. -/
import Derived.WalkSpells
import Derived.WalkLawsBesides
import Derived.Shelf.Small.Strs
import Derived.Sort.Walk0
import Derived.Laws.AppendOwnNone
import Derived.Deep.AppendLies
import Derived.Test.YtfnfbljijkjkjaaGreatM2
/- What the document's joins and constant answer. -/
namespace Go.Proofs.YtfnfbljijkjkjaaGreat
open Go.RowKit Go.Deep

set_option maxRecDepth 100000 in
set_option maxHeartbeats 1000000 in
theorem joins_still (a : Option Addr) (n cap : Nat) (l : List Sym) (f : Int) (w : World) (h : SigAt w a n l) :
    Calls Tryz.prog 59 #[.slice a n cap, .int .i64 f] w fun e w' => e = .returned (.bool (joinsAt l f)) ∧ w' = w := by
  have HS : Hid (SigAt w a n l) := h
  have hm := h.small
  unfold maxLen at hm
  obtain rfl := h.len
  clear h
  by_cases h0 : f < 0
  · have e : Hid (joinsAt l f = false) := by show _ = _; unfold joinsAt; rw [symAt_out (by omega)]
    have hd : ¬ 0 ≤ f := by omega
    go_enter Tryz.func59, Tryz.ntmps59
    go_wp2
    go_ret
    exact ⟨by rw [e.out]; rfl, rfl⟩
  · obtain ⟨k, rfl⟩ : ∃ k : Nat, f = k := ⟨f.toNat, by omega⟩
    by_cases hk : k < l.length
    · obtain ⟨b, off, rfl, hs⟩ := HS.out.cells k hk
      have e : Hid (joinsAt l (k : Int) = (decide (l[k].kind = 2) || decide (l[k].kind = 3))) := by show _ = _; unfold joinsAt; rw [symAt_in hk]
      obtain ⟨s, hs1⟩ : ∃ s, l[k] = s := ⟨_, rfl⟩
      rw [hs1] at hs e
      have c1 := hs.kind
      have hk0 : (0 : Int) ≤ (k : Int) := by omega
      have hkn : (k : Int) < (l.length : Int) := by omega
      clear hs hs1 h0
      by_cases h2 : s.kind = 2
      · have hd : (s.kind == 2) = true := by simp [h2]
        go_enter Tryz.func59, Tryz.ntmps59
        go_wp2
        go_ret
        exact ⟨by rw [e.out]; simp [h2], rfl⟩
      · have hd : (s.kind == 2) = false := by simp [h2]
        by_cases h3 : s.kind = 3
        · have hd3 : (s.kind == 3) = true := by simp [h3]
          go_enter Tryz.func59, Tryz.ntmps59
          go_wp2
          go_ret
          exact ⟨by rw [e.out]; simp [h3], rfl⟩
        · have hd3 : (s.kind == 3) = false := by simp [h3]
          go_enter Tryz.func59, Tryz.ntmps59
          go_wp2
          go_ret
          exact ⟨by rw [e.out]; simp [h2, h3], rfl⟩
    · have e : Hid (joinsAt l (k : Int) = false) := by show _ = _; unfold joinsAt; rw [symAt_out (by omega)]
      have hd : ¬ (k : Int) < (l.length : Int) := by omega
      go_enter Tryz.func59, Tryz.ntmps59
      go_wp2
      go_ret
      exact ⟨by rw [e.out]; rfl, rfl⟩
set_option maxRecDepth 100000 in
theorem joins_any (a : Option Addr) (n cap : Nat) (l : List Sym) (f : Int) (w : World) (h : SigAt w a n l) :
    Calls Tryz.prog 59 #[.slice a n cap, .int .i64 f] w fun e w' => e = .returned (.bool (joinsAt l f)) ∧ Below w.heap.size w w' :=
  (joins_still a n cap l f w h).mono fun e w' ⟨h1, h2⟩ => ⟨h1, by rw [h2]; exact Below.refl _ _⟩

set_option maxRecDepth 100000 in
set_option maxHeartbeats 1000000 in
theorem constant_any (t : Tn) (a : Option Addr) (c : Nat) (u : Int) (w : World) (hc : lenF t.2 ≤ 9223372036854775807) :
    Calls Tryz.prog 98 #[.agg #[.string t.1.1, .int .i64 t.1.2, .slice a (lenF t.2) c], .int .i64 u] w fun e w' => e = .returned (.bool (isConst t u)) ∧ Below w.heap.size w w' := by
  have hb := TBox.new w t.1 a (lenF t.2) c
  have hlow : Hid (Below w.heap.size w (w.alloc (.cells #[.string t.1.1, .int .i64 t.1.2, .slice a (lenF t.2) c] 26))) := (Below.refl _ w).alloc (Nat.le_refl _) _
  cases hn : t.1.1.toList.isEmpty
  · have e : Hid (isConst t u = false) := by show _ = _; unfold isConst noName; rw [hn]; rfl
    go_enter Tryz.func98, Tryz.ntmps98
    go_wp2
    go_ret
    exact ⟨by rw [e.out]; rfl, hlow.out⟩
  · cases hs : (t.1.2 == u)
    · have e : Hid (isConst t u = false) := by show _ = _; unfold isConst; rw [hs]; simp
      go_enter Tryz.func98, Tryz.ntmps98
      go_wp2
      go_ret
      exact ⟨by rw [e.out]; rfl, hlow.out⟩
    · have e : Hid (isConst t u = (lenF t.2 == 0)) := by show _ = _; unfold isConst noName; rw [hs, hn]; simp
      obtain ⟨n, hnn⟩ : ∃ n, lenF t.2 = n := ⟨_, rfl⟩
      rw [hnn] at hb hlow e hc ⊢
      clear hnn
      cases n with
      | zero =>
        go_enter Tryz.func98, Tryz.ntmps98
        go_wp2
        go_ret
        exact ⟨by rw [e.out]; rfl, hlow.out⟩
      | succ n =>
        have hd : ((n : Int) + 1 == 0) = false := by simp; omega
        go_enter Tryz.func98, Tryz.ntmps98
        go_wp2
        go_ret
        exact ⟨by rw [e.out]; rfl, hlow.out⟩
end Go.Proofs.YtfnfbljijkjkjaaGreat
/- What the document's Compare answers of any two terms; Same. -/
namespace Go.Proofs.YtfnfbljijkjkjaaGreat
open Go.RowKit Go.Deep

theorem lt_bytes : ∀ a b : List UInt8, a < b ↔ Lib.compareBytes a b = -1
  | [], [] => by simp [Lib.compareBytes]
  | [], _ :: _ => by simp [Lib.compareBytes]
  | _ :: _, [] => by simp [Lib.compareBytes]
  | a :: u, b :: v => by
    have ih := lt_bytes u v
    rw [List.cons_lt_cons_iff, Lib.compareBytes, ih]
    by_cases h1 : a < b
    · simp [h1]
    · by_cases h2 : b < a
      · have : a ≠ b := fun e => by subst e; exact absurd h2 h1
        simp [h1, h2, this]
      · have h1' : ¬ a.toNat < b.toNat := fun h => h1 (UInt8.lt_iff_toNat_lt.2 h)
        have h2' : ¬ b.toNat < a.toNat := fun h => h2 (UInt8.lt_iff_toNat_lt.2 h)
        have : a = b := UInt8.toNat_inj.1 (by omega)
        simp [this]
theorem bytes_less (x y : ByteArray) : Op.bytesLess x.toList y.toList = decide (cmpS x y = -1) := by
  rw [bytesLess_eq, ByteArray.toList_eq, ByteArray.toList_eq]
  exact decide_eq_decide.2 (lt_bytes _ _)
theorem cmpS_three (x y : ByteArray) : cmpS x y = if Op.bytesLess x.toList y.toList = true then -1 else if (x.toList == y.toList) = true then 0 else 1 := by
  rw [bytes_less, ByteArray.toList_eq, ByteArray.toList_eq]
  unfold cmpS
  have hr : Lib.compareBytes x.data.toList y.data.toList = -1 ∨ Lib.compareBytes x.data.toList y.data.toList = 0 ∨ Lib.compareBytes x.data.toList y.data.toList = 1 := by
    have : ∀ a b : List UInt8, -1 ≤ Lib.compareBytes a b ∧ Lib.compareBytes a b ≤ 1 := by
      intro a
      induction a with
      | nil => intro b; cases b <;> simp [Lib.compareBytes]
      | cons p u ih =>
        intro b
        cases b with
        | nil => simp [Lib.compareBytes]
        | cons q v =>
          have := ih v
          rw [Lib.compareBytes]
          split
          · omega
          · split <;> omega
    have := this x.data.toList y.data.toList
    omega
  by_cases e : x.data.toList = y.data.toList
  · rw [e, bytes_refl]; simp
  · have h0 : Lib.compareBytes x.data.toList y.data.toList ≠ 0 := fun h => e (bytes_zero h)
    rcases hr with h | h | h
    · simp [h]
    · exact absurd h h0
    · simp only [h]
      have : (x.data.toList == y.data.toList) = false := by simpa using e
      rw [this]; rfl
def RCmpOk (k : Nat) : Prop := ∀ (x y : ByteArray × Int) (a a' : Option Addr) (c c' : Nat) (l m : Fo) (w : World), nodesF l ≤ k → TmAt w x a c l → TmAt w y a' c' m →
  Calls Tryz.prog 34 #[.agg #[.string x.1, .int .i64 x.2, .slice a (lenF l) c], .agg #[.string y.1, .int .i64 y.2, .slice a' (lenF m) c']] w
    fun e w' => e = .returned (.int .i64 (cmp1 x y (lenF l) (lenF m) (cmpF l m))) ∧ Below w.heap.size w w'

set_option maxRecDepth 100000 in
set_option maxHeartbeats 2000000 in
theorem rcompare_all : ∀ k, RCmpOk k := by
  intro k
  induction k using Nat.strongRecOn with
  | _ k ih =>
    intro x y a a' c c' l m w hk hA hB
    have HA : Hid (TmAt w x a c l) := hA
    have HB : Hid (TmAt w y a' c' m) := hB
    have IH : Hid (∀ j, j < k → RCmpOk j) := ih
    have hmax : maxLen = 9223372036854775807 := rfl
    have hs1 := hA.sizes.len
    have hs2 := hA.sizes.cap
    have PA : Hid (Pair w x a (lenF l) c y a' (lenF m) c' ((w.alloc (.cells #[.string x.1, .int .i64 x.2, .slice a (lenF l) c] 26)).alloc (.cells #[.string y.1, .int .i64 y.2, .slice a' (lenF m) c'] 26))) := Pair.new _ _ _ _ _ _ _ _ _
    clear hA hB ih
    cases hx : x.1.toList.isEmpty <;> cases hy : y.1.toList.isEmpty
    · have hr : Hid (cmp1 x y (lenF l) (lenF m) (cmpF l m) = cmpS x.1 y.1) := by show _ = _; unfold cmp1 noName; rw [hx, hy]; rfl
      have hS := cmpS_three x.1 y.1
      cases h1 : Op.bytesLess x.1.toList y.1.toList
      · cases h2 : (x.1.toList == y.1.toList)
        · rw [h1, h2] at hS
          go_enter Tryz.func34, Tryz.ntmps34
          go_wp2
          go_ret
          exact ⟨by rw [hr.out, hS]; rfl, PA.out.low⟩
        · rw [h1, h2] at hS
          go_enter Tryz.func34, Tryz.ntmps34
          go_wp2
          go_ret
          exact ⟨by rw [hr.out, hS]; rfl, PA.out.low⟩
      · rw [h1] at hS
        go_enter Tryz.func34, Tryz.ntmps34
        go_wp2
        go_ret
        exact ⟨by rw [hr.out, hS]; rfl, PA.out.low⟩
    · have hr : Hid (cmp1 x y (lenF l) (lenF m) (cmpF l m) = -1) := by show _ = _; unfold cmp1 noName cmpS; rw [hx, hy]; rfl
      go_enter Tryz.func34, Tryz.ntmps34
      go_wp2
      go_ret
      exact ⟨by rw [hr.out]; rfl, PA.out.low⟩
    · have hr : Hid (cmp1 x y (lenF l) (lenF m) (cmpF l m) = 1) := by show _ = _; unfold cmp1 noName cmpS; rw [hx, hy]; rfl
      go_enter Tryz.func34, Tryz.ntmps34
      go_wp2
      go_ret
      exact ⟨by rw [hr.out]; rfl, PA.out.low⟩
    · cases hs : (x.2 != y.2)
      · cases hn : ((lenF l : Int) != (lenF m : Int))
        · have hr : Hid (cmp1 x y (lenF l) (lenF m) (cmpF l m) = cmpF l m) := by
            show _ = _; unfold cmp1 noName cmpS; rw [hx, hy]; simp at hs hn; simp [hs]; omega
          have hlm : Hid (lenF m = lenF l) := by show _ = _; simp at hn; omega
          go_enter Tryz.func34, Tryz.ntmps34
          go_wp2
          go_loopw [5, 6] (fun i _ wr => ∃ j : Nat, j ≤ lenF l ∧ i = .int .i64 j ∧ Pair w x a (lenF l) c y a' (lenF m) c' wr ∧ cmpF l m = cmpF (dropF j l) (dropF j m)) (fun i _ _ => lenF l - (intOf i).toNat)
          case atStart => exact ⟨0, Nat.zero_le _, rfl, PA.out, by rw [drop_zero, drop_zero]⟩
          case round =>
            obtain ⟨j, hj, rfl, hP, hcmp⟩ := hrel
            have t2 := hP.l.c2
            by_cases hlt : j < lenF l
            · obtain ⟨b1, o1, rfl, hk1⟩ := HA.out.args.get (by omega)
              obtain ⟨b2, o2, rfl, hk2⟩ := HB.out.args.get (by have := hlm.out; omega)
              obtain ⟨z, a1, c1, l1, kd⟩ := hk1.kid (k := j) hlt
              obtain ⟨z', a2, c2, l2, kd2⟩ := hk2.kid (k := j) (by have := hlm.out; omega)
              have kd' := kd.below hP.low
              have kd2' := kd2.below hP.low
              have HP : Hid (Pair w x (some ⟨b1, o1, none⟩) (lenF l) c y (some ⟨b2, o2, none⟩) (lenF m) c' wr) := hP
              have hC : Hid (∀ w', Below wr.heap.size wr w' → Calls Tryz.prog 34 #[.agg #[.string z.1, .int .i64 z.2, .slice a1 (lenF l1) c1], .agg #[.string z'.1, .int .i64 z'.2, .slice a2 (lenF l2) c2]] w' fun e w'' => e = .returned (.int .i64 (cmp1 z z' (lenF l1) (lenF l2) (cmpF l1 l2))) ∧ Below w'.heap.size w' w'') := fun w' hb =>
                IH.out (nodesF l1) (by have := kd.less; omega) z z' a1 a2 c1 c2 l1 l2 w' (Nat.le_refl _) (kd'.at_.below hb) (kd2'.at_.below hb)
              obtain ⟨B1, O1, s1⟩ := kd.split
              obtain ⟨B2, O2, s2⟩ := kd2.split
              rw [s1, s2, cmpF] at hcmp
              have HC : Hid (cmpF l m = thenC (cmp1 z z' (lenF l1) (lenF l2) (cmpF l1 l2)) (cmpF (dropF (j + 1) l) (dropF (j + 1) m))) := hcmp
              have hne := later_some wr
              have d0 := later_cell hP.l.c2
              have d1 := later_cell hP.r.c2
              have p0 := later_cell kd'.name; have p1 := later_cell kd'.sym; have p2 := later_cell kd'.list
              have q0 := later_cell kd2'.name; have q1 := later_cell kd2'.sym; have q2 := later_cell kd2'.list
              have hk0 : (0 : Int) ≤ (j : Int) := by omega
              have hkn : (j : Int) < (lenF l : Int) := by omega
              have hkm : (j : Int) < (lenF m : Int) := by have := hlm.out; omega
              clear kd kd2 kd' kd2' hk1 hk2 hP hcmp s1 s2
              go_wp2_with fail
              refine wp_region_later (by kernel_rfl) (by kernel_rfl) ?_
              repeat (go_big_quiet_step ((refine calls_later (hC.out _ ?_); exact Later.below _)))
              refine wpQuiet_nil ?_
              intro _ hw'
              obtain ⟨bl, hw''⟩ := hw'
              subst hw''
              have HP2 : Hid (Pair w x (some ⟨b1, o1, none⟩) (lenF l) c y (some ⟨b2, o2, none⟩) (lenF m) c' bl.now) := HP.out.below bl.below
              clear d0 d1 p0 p1 p2 q0 q1 q2 t2
              cases hz : (cmp1 z z' (lenF l1) (lenF l2) (cmpF l1 l2) != 0)
              · go_wp2
                go_roundw
                case rel => exact ⟨j + 1, by omega, by go_num, HP2.out, by rw [HC.out]; unfold thenC; rw [if_pos (by simpa using hz)]⟩
                case measure => simp [intOf]; omega
              · go_wp2
                go_ret
                refine ⟨?_, HP2.out.low⟩
                rw [hr.out, HC.out]; unfold thenC; rw [if_neg (by simpa using hz)]; rfl
            · have hz : cmpF l m = 0 := by
                rw [hcmp, show j = lenF l by omega, drop_end]; rfl
              go_wp2
              go_ret
              exact ⟨by rw [hr.out, hz]; rfl, hP.low⟩
        · have hr : Hid (cmp1 x y (lenF l) (lenF m) (cmpF l m) = Lib.compareInt (lenF l) (lenF m)) := by
            show _ = _; unfold cmp1 noName cmpS; rw [hx, hy]; simp at hs hn; simp [hs]; omega
          have hne : lenF l ≠ lenF m := by simp at hn; omega
          by_cases h1 : lenF l < lenF m
          · go_enter Tryz.func34, Tryz.ntmps34
            go_wp2
            go_ret
            refine ⟨?_, PA.out.low⟩
            rw [hr.out]; unfold Lib.compareInt; rw [if_pos (by omega)]; rfl
          · go_enter Tryz.func34, Tryz.ntmps34
            go_wp2
            go_ret
            refine ⟨?_, PA.out.low⟩
            rw [hr.out]; unfold Lib.compareInt; rw [if_neg (by omega), if_pos (by omega)]; rfl
      · have hr : Hid (cmp1 x y (lenF l) (lenF m) (cmpF l m) = Lib.compareInt x.2 y.2) := by
          show _ = _; unfold cmp1 noName cmpS; rw [hx, hy]; simp at hs; simp [hs]
        have hne : x.2 ≠ y.2 := by simpa using hs
        by_cases h1 : x.2 < y.2
        · go_enter Tryz.func34, Tryz.ntmps34
          go_wp2
          go_ret
          refine ⟨?_, PA.out.low⟩
          rw [hr.out]; unfold Lib.compareInt; rw [if_pos h1]; rfl
        · go_enter Tryz.func34, Tryz.ntmps34
          go_wp2
          go_ret
          refine ⟨?_, PA.out.low⟩
          rw [hr.out]; unfold Lib.compareInt; rw [if_neg (by omega), if_pos (by omega)]; rfl

end Go.Proofs.YtfnfbljijkjkjaaGreat
/- What the document's Sorted answers: the terms in order, in a row of its own; their lists are those that came in. -/
namespace Go.Proofs.YtfnfbljijkjkjaaGreat
open Go.RowKit Go.Deep

def Kv.tn (k : Kv) : Tn := (k.x, k.l)
set_option maxRecDepth 100000 in
/-- Where one is laid into a list in order: ahead of all that are greater. -/
theorem ins_at {x : Tn} : ∀ {l : List Tn} {n : Nat}, Srt l → n ≤ l.length → (∀ j y, n ≤ j → l[j]? = some y → cmpN y x > 0) → (n = 0 ∨ ∀ y, l[n - 1]? = some y → cmpN y x ≤ 0) → insN x l = l.take n ++ x :: l.drop n
  | [], n, _, hn, _, _ => by simp at hn; subst hn; rfl
  | y :: r, 0, _, _, h1, _ => by
    have := h1 0 y (Nat.le_refl _) rfl
    rw [insN, if_pos this]
    rfl
  | y :: r, n + 1, hs, hn, h1, h2 => by
    obtain ⟨s1, s2⟩ := List.pairwise_cons.1 hs
    simp only [List.length_cons] at hn
    rcases h2 with h2 | h2
    · omega
    have hlt : n < (y :: r).length := by simp; omega
    have h3 := h2 ((y :: r)[n]) (by rw [Nat.add_sub_cancel]; exact List.getElem?_eq_getElem hlt)
    have hy : ¬ cmpN y x > 0 := by
      have : leN y x := by
        cases n with
        | zero => exact h3
        | succ n => exact leN_trans (s1 _ (by simp)) h3
      unfold leN at this
      omega
    rw [insN, if_neg hy, ins_at (n := n) s2 (by omega) (fun j z hj hz => h1 (j + 1) z (by omega) (by simpa using hz)) (by
      cases n with
      | zero => exact .inl rfl
      | succ n => exact .inr (fun z hz => h2 z (by simpa using hz)))]
    rfl
set_option maxRecDepth 100000 in
theorem sortN_snoc (l : List Tn) (x : Tn) : sortN (l ++ [x]) = insN x (sortN l) := by
  unfold sortN
  rw [List.foldl_append]
  rfl

/-! ### lists of terms in memory -/
set_option maxRecDepth 100000 in
theorem kvCells_append (a b : List Kv) : kvCells (a ++ b) = kvCells a ++ kvCells b := by simp [kvCells]
set_option maxRecDepth 100000 in
theorem kvCells_one : ∀ ks : List Kv, ∀ u ∈ kvCells ks, u.oneCell' = true := fun ks u hu => by
  obtain ⟨k, _, h⟩ := List.mem_flatMap.1 hu
  exact kv_one k u h
set_option maxRecDepth 100000 in
theorem kvCells_drop (ks : List Kv) (n : Nat) : kvCells (ks.drop n) = (kvCells ks).drop (n * 3) := by
  induction n generalizing ks with
  | zero => simp
  | succ n ih =>
    cases ks with
    | nil => simp [kvCells]
    | cons k r =>
      rw [List.drop_succ_cons, ih r]
      show _ = (k.cells ++ kvCells r).drop ((n + 1) * 3)
      rw [List.drop_append, show (n + 1) * 3 - k.cells.length = n * 3 by rw [show k.cells.length = 3 from rfl]; omega, (List.drop_eq_nil_of_le (by rw [show k.cells.length = 3 from rfl]; omega) : k.cells.drop ((n + 1) * 3) = [])]
      rfl
set_option maxRecDepth 100000 in
theorem kvCells_take (ks : List Kv) (n : Nat) : kvCells (ks.take n) = (kvCells ks).take (n * 3) := by
  induction n generalizing ks with
  | zero => simp [kvCells]
  | succ n ih =>
    cases ks with
    | nil => simp [kvCells]
    | cons k r =>
      rw [List.take_succ_cons]
      show k.cells ++ kvCells (r.take n) = (k.cells ++ kvCells r).take ((n + 1) * 3)
      rw [ih r, List.take_append, show (n + 1) * 3 - k.cells.length = n * 3 by rw [show k.cells.length = 3 from rfl]; omega, List.take_of_length_le (l := k.cells) (by rw [show k.cells.length = 3 from rfl]; omega)]
/-- The slice with this address holds these terms' cells. -/
structure RowAt (w : World) (a : Option Addr) (n : Nat) (ks : List Kv) : Prop where
  len : n = ks.length
  cells : ∀ j u, (kvCells ks)[j]? = some u → ∃ b off, a = some ⟨b, off, none⟩ ∧ w.cell? ⟨b, off + j, none⟩ = some u
set_option maxRecDepth 100000 in
theorem RowAt.below {w w' : World} {a : Option Addr} {n : Nat} {ks : List Kv} (h : RowAt w a n ks) (hb : Below w.heap.size w w') : RowAt w' a n ks :=
  ⟨h.len, fun j u hu => by obtain ⟨b, off, ha, hc⟩ := h.cells j u hu; exact ⟨b, off, ha, below_cell hb _ _ hc⟩⟩
set_option maxRecDepth 100000 in
theorem kv_cells {ks : List Kv} {j : Nat} {k : Kv} (h : ks[j]? = some k) : (kvCells ks)[j * 3]? = some (.string k.x.1) ∧ (kvCells ks)[j * 3 + 1]? = some (.int .i64 k.x.2) ∧ (kvCells ks)[j * 3 + 2]? = some (.slice k.a (lenF k.l) k.c) := by
  have e := kvCells_drop ks j
  obtain ⟨hlt, hk⟩ := List.getElem?_eq_some_iff.1 h
  rw [List.drop_eq_getElem_cons hlt, hk] at e
  have e2 : ∀ i, i < 3 → (kvCells ks)[j * 3 + i]? = (k.cells)[i]? := fun i hi => by
    rw [← List.getElem?_drop, ← e]
    show (k.cells ++ kvCells _)[i]? = _
    rw [List.getElem?_append_left (by simp [Kv.cells]; exact hi)]
  exact ⟨e2 0 (by omega), e2 1 (by omega), e2 2 (by omega)⟩
set_option maxRecDepth 100000 in
/-- The cells of one of them. -/
theorem RowAt.get {w : World} {a : Option Addr} {n : Nat} {ks : List Kv} (h : RowAt w a n ks) {j : Nat} {k : Kv} (hk : ks[j]? = some k) : ∃ b off, a = some ⟨b, off, none⟩ ∧ w.cell? ⟨b, off + j * 3, none⟩ = some (.string k.x.1) ∧ w.cell? ⟨b, off + j * 3 + 1, none⟩ = some (.int .i64 k.x.2) ∧ w.cell? ⟨b, off + j * 3 + 2, none⟩ = some (.slice k.a (lenF k.l) k.c) := by
  obtain ⟨h0, h1, h2⟩ := kv_cells hk
  obtain ⟨b, off, rfl, c0⟩ := h.cells _ _ h0
  obtain ⟨_, _, e1, c1⟩ := h.cells _ _ h1
  obtain ⟨_, _, e2, c2⟩ := h.cells _ _ h2
  cases e1
  cases e2
  exact ⟨b, off, rfl, c0, by rw [← Nat.add_assoc] at c1; exact c1, by rw [← Nat.add_assoc] at c2; exact c2⟩
set_option maxRecDepth 100000 in
theorem row_of_owns {w : World} {base n : Nat} {v : Value} {ks : List Kv} (h : w.ownsRow base 26 3 v n (kvCells ks)) : ∃ a cap, v = .slice a n cap ∧ n ≤ cap ∧ cap ≤ maxLen ∧ RowAt w a n ks ∧ (a = none → n = 0 ∧ cap = 0) ∧ (∀ b off sp, a = some ⟨b, off, sp⟩ → base ≤ b ∧ off = 0 ∧ sp = none) := by
  have hl : ks.length = n := by have := h.1; rw [kvCells_len] at this; omega
  rcases h.2 with ⟨rfl, h0⟩ | ⟨g, cap, cur, rfl, hb, hg, hnc, hcm, hsz, hcur⟩
  · obtain rfl : ks = [] := List.length_eq_zero_iff.1 (hl.trans h0)
    exact ⟨none, 0, by rw [h0], by omega, by simp, ⟨by omega, fun j u hu => by simp [kvCells] at hu⟩, fun _ => ⟨h0, rfl⟩, fun b off sp e => by cases e⟩
  · exact ⟨_, cap, rfl, hnc, hcm, ⟨hl.symm, fun j u hu => ⟨g, 0, rfl, owns_at h j u hu⟩⟩, (fun e => by cases e), (fun b off sp e => by cases e; exact ⟨hb, rfl, rfl⟩)⟩

set_option maxRecDepth 100000 in
/-- append of what another slice holds, be it nil, be it empty. -/
theorem wpList_append_kvs {ops : Array Oper} {rest : List Oper} {o : Oper} {a : Act} {Q : Exit → Act → World → Prop} {W : World} (hgd : o.guard = none) (s x : Operand)
    (ho : o.op = .call { callee := .builtin .append, args := #[s, x], argTypes := #[24, 24] }) (base : Nat) (v : Value) (ks : List Kv) (hs : a.eval s = v) (hown : W.ownsRow base 26 3 v ks.length (kvCells ks))
    (sa : Option Addr) (m c : Nat) (ms : List Kv) (hx : a.eval x = .slice sa m c) (hm : RowAt W sa m ms) (hnil : sa = none → c = 0) (hbig : ks.length + m ≤ 4194304) (hbase : base ≤ W.heap.size)
    (h : ∀ v' w', w'.ownsRow base 26 3 v' (ks ++ ms).length (kvCells (ks ++ ms)) → W.grownBy w' v.ownBlock → wpList Tryz.prog ops Q rest (a.put o.dst v') w') : wpList Tryz.prog ops Q (o :: rest) a W := by
  obtain ⟨i0, hi, hz0, hz1, hz2⟩ := info_parts Tryz.info26
  have hmax : maxLen = 9223372036854775807 := rfl
  rcases sa with _ | ⟨b, off, sp⟩
  · obtain rfl : ms = [] := by
      cases ms with
      | nil => rfl
      | cons k r =>
        obtain ⟨_, _, e, _⟩ := hm.get (j := 0) (k := k) rfl
        cases e
    obtain rfl := hm.len
    obtain rfl := hnil rfl
    refine wpList_append_own_none hgd s x 24 ho base 26 i0 3 Tryz.underlying24 hi v ks.length (kvCells ks) hs hown hx (h v W (by simpa using hown) ?_)
    exact ⟨rfl, rfl, rfl, Nat.le_refl _, fun _ _ _ => rfl⟩
  · have hlm := hm.len
    refine wpList_append_own _ hgd s x 24 ho base 26 i0 _ 3 48 Tryz.underlying24 hi hz0 hz1 hz2 rfl (by decide) v ks.length (kvCells ks) hs hown ⟨b, off, sp⟩ m c (kvCells ms) hx (by rw [kvCells_len, hlm]) (fun j u hu => ?_) (kvCells_one ms) (by omega) (by omega) hbase ?_
    · obtain ⟨b', off', e, hc⟩ := hm.cells j u hu
      cases e
      rw [← hc]
      congr 1
      unfold Addr.add
      split <;> simp_all
    · intro v' w' h1 h2 _
      refine h v' w' ?_ h2
      rw [kvCells_append, List.length_append, ← hlm]
      exact h1
end Go.Proofs.YtfnfbljijkjkjaaGreat
/- The walk of the document's Sorted. -/
namespace Go.Proofs.YtfnfbljijkjkjaaGreat
open Go.RowKit Go.Deep

set_option maxRecDepth 100000 in
theorem RowAt.take {w : World} {a : Option Addr} {n : Nat} {ks : List Kv} (h : RowAt w a n ks) {p : Nat} (hp : p ≤ ks.length) : RowAt w a p (ks.take p) :=
  ⟨by simp; omega, fun j u hu => h.cells j u (by
    rw [kvCells_take, List.getElem?_take] at hu
    split at hu
    · exact hu
    · cases hu)⟩
set_option maxRecDepth 100000 in
theorem RowAt.drop {w : World} {g off n : Nat} {ks : List Kv} (h : RowAt w (some ⟨g, off, none⟩) n ks) {p : Nat} (_ : p ≤ ks.length) : RowAt w (some ⟨g, off + p * 3, none⟩) (n - p) (ks.drop p) :=
  ⟨by rw [List.length_drop, h.len], fun j u hu => by
    rw [kvCells_drop, List.getElem?_drop] at hu
    obtain ⟨b, o, e, hc⟩ := h.cells _ u hu
    cases e
    exact ⟨g, off + p * 3, rfl, by rw [Nat.add_assoc]; exact hc⟩⟩
set_option maxRecDepth 100000 in
theorem RowAt.empty (w : World) (a : Option Addr) : RowAt w a 0 [] := ⟨rfl, fun j u hu => by simp [kvCells] at hu⟩
set_option maxRecDepth 100000 in
theorem row_empty26 (w : World) : (w.alloc (.cells #[] 26)).ownsRow w.heap.size 26 3 (.slice (some ⟨w.heap.size, 0, none⟩) 0 0) 0 (kvCells []) :=
  ⟨rfl, .inr ⟨w.heap.size, 0, #[], rfl, Nat.le_refl _, World.alloc_heap_new w _, Nat.le_refl _, Nat.zero_le _, rfl, rfl⟩⟩
set_option maxRecDepth 100000 in
theorem RowAt.new (w : World) (k : Kv) : RowAt (w.alloc (.cells #[.string k.x.1, .int .i64 k.x.2, .slice k.a (lenF k.l) k.c] 26)) (some ⟨w.heap.size, 0, none⟩) 1 [k] :=
  ⟨rfl, fun j u hu => by
    refine ⟨w.heap.size, 0, rfl, ?_⟩
    have h := World.news_of_block (heap_alloc_new w (.cells #[.string k.x.1, .int .i64 k.x.2, .slice k.a (lenF k.l) k.c] 26)) j u (by simpa [kvCells, Kv.cells] using hu)
    rw [← h]
    congr 1
    unfold Addr.add
    split <;> simp_all⟩
/-- What the inner loop has found when it ends. -/
structure Found (out : List Kv) (k : Kv) (p : Nat) : Prop where
  le : p ≤ out.length
  gt : ∀ q y, p ≤ q → out[q]? = some y → cmpN y.tn k.tn > 0
  at_ : p = 0 ∨ ∀ y, out[p - 1]? = some y → cmpN y.tn k.tn ≤ 0
set_option maxRecDepth 100000 in
theorem Found.ins {out : List Kv} {k : Kv} {p : Nat} (h : Found out k p) (hs : Srt (out.map Kv.tn)) : (out.take p ++ [k] ++ out.drop p).map Kv.tn = insN k.tn (out.map Kv.tn) := by
  rw [ins_at hs (n := p) (by simpa using h.le) (fun j y hj hy => by
    rw [List.getElem?_map, Option.map_eq_some_iff] at hy
    obtain ⟨z, hz, rfl⟩ := hy
    exact h.gt j z hj hz) (by
    rcases h.at_ with h0 | h0
    · exact .inl h0
    · refine .inr (fun y hy => ?_)
      rw [List.getElem?_map, Option.map_eq_some_iff] at hy
      obtain ⟨z, hz, rfl⟩ := hy
      exact h0 z hz)]
  simp

set_option maxRecDepth 100000 in
set_option maxHeartbeats 2000000 in
theorem sorted_any (a : Option Addr) (n cap : Nat) (ks : List Kv) (w : World) (hR : RowAt w a n ks) (hK : ∀ k ∈ ks, TmAt w k.x k.a k.c k.l) (hn : n ≤ 2097152) :
    Calls Tryz.prog 80 #[.slice a n cap] w fun e w' => ∃ v out, e = .returned v ∧ w'.ownsRow w.heap.size 26 3 v out.length (kvCells out) ∧ (∀ k ∈ out, k ∈ ks) ∧ out.map Kv.tn = sortN (ks.map Kv.tn) ∧ Below w.heap.size w w' := by
  obtain rfl := hR.len
  have HR : Hid (RowAt w a ks.length ks) := hR
  have HK : Hid (∀ k ∈ ks, TmAt w k.x k.a k.c k.l) := hK
  clear hR hK
  go_enter Tryz.func80, Tryz.ntmps80
  go_wp2
  go_loopw [3, 4] (fun ov i wr => ∃ (j : Nat) (v : Value) (out : List Kv), j ≤ ks.length ∧ v = ov ∧ i = .int .i64 j ∧ wr.ownsRow w.heap.size 26 3 v out.length (kvCells out) ∧ (∀ k ∈ out, k ∈ ks) ∧ out.map Kv.tn = sortN ((ks.take j).map Kv.tn) ∧ Below w.heap.size w wr) (fun _ i _ => ks.length - (intOf i).toNat)
  case atStart => exact ⟨0, _, [], Nat.zero_le _, rfl, rfl, World.ownsRow_nil _ _ _ _, by simp, by simp [sortN], Below.refl _ _⟩
  case round =>
    obtain ⟨j, v, out, hj, rfl, rfl, hrow, hin, hmap, hlow⟩ := hrel
    have HRow : Hid (wr.ownsRow w.heap.size 26 3 v out.length (kvCells out)) := hrow
    have HIn : Hid (∀ k ∈ out, k ∈ ks) := hin
    have HM : Hid (out.map Kv.tn = sortN ((ks.take j).map Kv.tn)) := hmap
    have HL : Hid (Below w.heap.size w wr) := hlow
    have hol : out.length ≤ ks.length := by
      have := congrArg List.length hmap
      rw [List.length_map, sortN_len, List.length_map, List.length_take] at this
      omega
    clear hrow hin hmap hlow
    by_cases hlt : j < ks.length
    · obtain ⟨kv, hkv⟩ : ∃ kv, ks[j]? = some kv := ⟨_, List.getElem?_eq_getElem hlt⟩
      obtain ⟨b, off, rfl, s0, s1, s2⟩ := (HR.out.below HL.out).get hkv
      have HKV : Hid (ks[j]? = some kv) := hkv
      have HTk : Hid (TmAt wr kv.x kv.a kv.c kv.l) := (HK.out kv (List.mem_of_getElem? hkv)).below HL.out
      obtain ⟨oa, ocap, rfl, hoc, hocm, hot, honil, hosome⟩ := row_of_owns HRow.out
      have HOT : Hid (RowAt wr oa out.length out) := hot
      obtain ⟨wo, rfl⟩ : ∃ wo, wo = wr := ⟨wr, rfl⟩
      have hjn : (j : Int) < (ks.length : Int) := by omega
      have hj0 : (0 : Int) ≤ (j : Int) := by omega
      clear hot hkv
      rcases oa with _ | ⟨g, o2, sp⟩
      · obtain ⟨ho0, rfl⟩ := honil rfl
        obtain rfl : out = [] := List.length_eq_zero_iff.1 ho0
        clear ho0 hosome honil
        have hd : decide (0 < 0) = false := by simp
        go_wp2
        go_loopw [5] (fun av W => av = .int .i64 0 ∧ Below wo.heap.size wo W) (fun av _ => (intOf av).toNat)
        case atStart => exact ⟨rfl, Below.refl _ _⟩
        case round =>
          obtain ⟨rfl, hW⟩ := hrel
          have HW : Hid (Below wo.heap.size wo wr) := hW
          have hF : Hid (Found ([] : List Kv) kv 0) := ⟨Nat.le_refl _, fun q y _ hy => by simp at hy, .inl rfl⟩
          have hne := later_some wr
          clear hW
          go_wp2_with fail
          refine wp_region_later (by kernel_rfl) (by kernel_rfl) ?_
          repeat (go_big_quiet_step (fail))
          refine wpQuiet_nil ?_
          intro _ hw'
          obtain ⟨b3, hw''⟩ := hw'
          subst hw''
          have HW9 : Hid (Below wo.heap.size wo b3.now) := HW.out.trans (b3.below.mono HW.out.size)
          obtain ⟨W9, hW9⟩ : ∃ W9, b3.now = W9 := ⟨_, rfl⟩
          rw [hW9] at HW9 ⊢
          clear hW9 hne
          have HA9 : Hid (Below W9.heap.size W9 (W9.alloc (.cells #[] 26))) := (Below.refl _ _).alloc (Nat.le_refl _) _
          have HO9 : Hid (RowAt (W9.alloc (.cells #[] 26)) none 0 []) := (HOT.out.below HW9.out).below HA9.out
          have hz9 := HW9.out.size
          go_wp2_with (at_builtin; first
            | (refine wpList_append_kvs rfl (.tmp 32) (.tmp 35) rfl W9.heap.size _ [] rfl (row_empty26 W9) none 0 0 (([] : List Kv)) rfl HO9.out (fun _ => rfl) (by simp <;> omega) (by simp) ?_; intro v1 w1 hown1 hgrow1; have HB1 : Hid (Below W9.heap.size W9 w1) := HA9.out.grown hgrow1 (by simp) (fun k e => by cases e; exact Nat.le_refl _); have HO1 : Hid (w1.ownsRow W9.heap.size 26 3 v1 (([] : List Kv)).length (kvCells (([] : List Kv)))) := hown1; have t0 := below_cell (HW9.out.trans (HB1.out.mono hz9)) _ _ s0; have t1 := below_cell (HW9.out.trans (HB1.out.mono hz9)) _ _ s1; have t2 := below_cell (HW9.out.trans (HB1.out.mono hz9)) _ _ s2; have hz1 := HB1.out.size; clear hown1 hgrow1)
            | (refine wpList_append_kvs rfl (.tmp 37) (.tmp 42) rfl W9.heap.size v1 (([] : List Kv)) rfl (owns_below HO1.out ((Below.refl _ _).alloc (Nat.le_refl _) _)) (some ⟨w1.heap.size, 0, none⟩) 1 1 [kv] rfl (RowAt.new w1 kv) (fun e => by cases e) (by simp <;> omega) (by rw [World.size_alloc]; omega) ?_; intro v2 w2 hown2 hgrow2; have HB2 : Hid (Below W9.heap.size W9 w2) := (HB1.out.alloc hz1 _).grown hgrow2 (by rw [World.size_alloc]; omega) (fun k e => (owns_cells HO1.out e).1); have HO2 : Hid (w2.ownsRow W9.heap.size 26 3 v2 (([] : List Kv) ++ [kv]).length (kvCells (([] : List Kv) ++ [kv]))) := hown2; have HR2 : Hid (RowAt w2 none 0 []) := (HOT.out.below HW9.out).below HB2.out; have hz2 := HB2.out.size; clear hown2 hgrow2)
            | (refine wpList_append_kvs rfl (.tmp 44) (.tmp 47) rfl W9.heap.size v2 (([] : List Kv) ++ [kv]) rfl HO2.out none 0 0 [] rfl (RowAt.empty _ _) (fun _ => rfl) (by simp <;> omega) hz2 ?_; intro v3 w3 hown3 hgrow3; have HB3 : Hid (Below W9.heap.size W9 w3) := HB2.out.grown hgrow3 hz2 (fun k e => (owns_cells HO2.out e).1); have HO3 : Hid (w3.ownsRow W9.heap.size 26 3 v3 (([] : List Kv) ++ [kv] ++ ([] : List Kv)).length (kvCells (([] : List Kv) ++ [kv] ++ ([] : List Kv)))) := hown3; clear hown3 hgrow3))
          go_roundw
          case rel =>
            refine ⟨j + 1, v3, ([] : List Kv) ++ [kv] ++ ([] : List Kv), by omega, rfl, by go_num, owns_base HO3.out (by have := HL.out.size; omega), ?_, ?_, HL.out.trans ((HW9.out.trans (HB3.out.mono hz9)).mono HL.out.size)⟩
            · intro k hk
              simp at hk
              subst hk
              exact List.mem_of_getElem? HKV.out
            · rw [show ([] ++ [kv] ++ [] : List Kv).map Kv.tn = insN kv.tn (([] : List Kv).map Kv.tn) from rfl, HM.out, ← sortN_snoc, List.take_add_one, HKV.out]
              simp
          case measure => simp [intOf]; omega
      · obtain ⟨_, rfl, rfl⟩ := hosome _ _ _ rfl
        clear honil hosome
        go_wp2
        go_loopw [5] (fun av W => ∃ p : Nat, p ≤ out.length ∧ av = .int .i64 p ∧ Below wo.heap.size wo W ∧ (∀ q y, p ≤ q → out[q]? = some y → cmpN y.tn kv.tn > 0)) (fun av _ => (intOf av).toNat)
        case atStart => exact ⟨out.length, Nat.le_refl _, rfl, Below.refl _ _, fun q y hq hy => by rw [List.getElem?_eq_none hq] at hy; cases hy⟩
        case round =>
          obtain ⟨p, hp, rfl, hW, hgt⟩ := hrel
          have HW : Hid (Below wo.heap.size wo wr) := hW
          have HGt : Hid (∀ q y, p ≤ q → out[q]? = some y → cmpN y.tn kv.tn > 0) := hgt
          clear hW hgt
          cases p with
          | zero =>
            have hF : Hid (Found out kv 0) := ⟨hp, HGt.out, .inl rfl⟩
            have hne := later_some wr
            have hd : decide (0 < 0) = false := by simp
            go_wp2_with fail
            refine wp_region_later (by kernel_rfl) (by kernel_rfl) ?_
            repeat (go_big_quiet_step (fail))
            refine wpQuiet_nil ?_
            intro _ hw'
            obtain ⟨b3, hw''⟩ := hw'
            subst hw''
            have HW9 : Hid (Below wo.heap.size wo b3.now) := HW.out.trans (b3.below.mono HW.out.size)
            obtain ⟨W9, hW9⟩ : ∃ W9, b3.now = W9 := ⟨_, rfl⟩
            rw [hW9] at HW9 ⊢
            clear hW9 hne
            have HA9 : Hid (Below W9.heap.size W9 (W9.alloc (.cells #[] 26))) := (Below.refl _ _).alloc (Nat.le_refl _) _
            have HO9 : Hid (RowAt (W9.alloc (.cells #[] 26)) (some ⟨g, 0, none⟩) out.length out) := (HOT.out.below HW9.out).below HA9.out
            have hz9 := HW9.out.size
            have hpo : 0 ≤ out.length := hF.out.le
            have hq0 : (0 : Int) ≤ ((0 : Nat) : Int) := by omega
            have hq1 : ((0 : Nat) : Int) ≤ (out.length : Int) := by omega
            have hq2 : ((0 : Nat) : Int) ≤ (ocap : Int) := by omega
            go_wp2_with (at_builtin; first
              | (refine wpList_append_kvs rfl (.tmp 32) (.tmp 35) rfl W9.heap.size _ [] rfl (row_empty26 W9) (some ⟨g, 0, none⟩) (0) ocap (out.take (0)) rfl (HO9.out.take hF.out.le) (fun e => by cases e) (by simp <;> omega) (by simp) ?_; intro v1 w1 hown1 hgrow1; have HB1 : Hid (Below W9.heap.size W9 w1) := HA9.out.grown hgrow1 (by simp) (fun k e => by cases e; exact Nat.le_refl _); have HO1 : Hid (w1.ownsRow W9.heap.size 26 3 v1 (out.take (0)).length (kvCells (out.take (0)))) := hown1; have t0 := below_cell (HW9.out.trans (HB1.out.mono hz9)) _ _ s0; have t1 := below_cell (HW9.out.trans (HB1.out.mono hz9)) _ _ s1; have t2 := below_cell (HW9.out.trans (HB1.out.mono hz9)) _ _ s2; have hz1 := HB1.out.size; clear hown1 hgrow1)
              | (refine wpList_append_kvs rfl (.tmp 37) (.tmp 42) rfl W9.heap.size v1 (out.take (0)) rfl (owns_below HO1.out ((Below.refl _ _).alloc (Nat.le_refl _) _)) (some ⟨w1.heap.size, 0, none⟩) 1 1 [kv] rfl (RowAt.new w1 kv) (fun e => by cases e) (by simp <;> omega) (by rw [World.size_alloc]; omega) ?_; intro v2 w2 hown2 hgrow2; have HB2 : Hid (Below W9.heap.size W9 w2) := (HB1.out.alloc hz1 _).grown hgrow2 (by rw [World.size_alloc]; omega) (fun k e => (owns_cells HO1.out e).1); have HO2 : Hid (w2.ownsRow W9.heap.size 26 3 v2 (out.take (0) ++ [kv]).length (kvCells (out.take (0) ++ [kv]))) := hown2; have HR2 : Hid (RowAt w2 (some ⟨g, 0, none⟩) out.length out) := (HOT.out.below HW9.out).below HB2.out; have hz2 := HB2.out.size; clear hown2 hgrow2)
              | (refine wpList_append_kvs rfl (.tmp 44) (.tmp 47) rfl W9.heap.size v2 (out.take (0) ++ [kv]) rfl HO2.out (some ⟨g, 0, none⟩) out.length ocap (out.drop (0)) rfl (by simpa using HR2.out) (fun e => by cases e) (by simp <;> omega) hz2 ?_; intro v3 w3 hown3 hgrow3; have HB3 : Hid (Below W9.heap.size W9 w3) := HB2.out.grown hgrow3 hz2 (fun k e => (owns_cells HO2.out e).1); have HO3 : Hid (w3.ownsRow W9.heap.size 26 3 v3 (out.take (0) ++ [kv] ++ out.drop (0)).length (kvCells (out.take (0) ++ [kv] ++ out.drop (0)))) := hown3; clear hown3 hgrow3))
            go_roundw
            case rel =>
              refine ⟨j + 1, v3, out.take (0) ++ [kv] ++ out.drop (0), by omega, rfl, by go_num, owns_base HO3.out (by have := HL.out.size; omega), ?_, ?_, HL.out.trans ((HW9.out.trans (HB3.out.mono hz9)).mono HL.out.size)⟩
              · intro k hk
                simp only [List.mem_append, List.mem_singleton] at hk
                rcases hk with (hk | rfl) | hk
                · exact HIn.out k (List.mem_of_mem_take hk)
                · exact List.mem_of_getElem? HKV.out
                · exact HIn.out k (List.mem_of_mem_drop hk)
              · rw [hF.out.ins (by rw [HM.out]; exact sortN_srt _), HM.out, ← sortN_snoc, List.take_add_one, HKV.out]
                simp
            case measure => simp [intOf]; omega
          | succ p =>
            obtain ⟨y, hy⟩ : ∃ y, out[p]? = some y := ⟨_, List.getElem?_eq_getElem (by omega)⟩
            obtain ⟨b2, off2, e, y0, y1, y2⟩ := (HOT.out.below HW.out).get hy
            cases e
            rw [Nat.zero_add] at y0 y1 y2
            have HC : Hid (∀ V, Below wr.heap.size wr V → Calls Tryz.prog 34 #[.agg #[.string y.x.1, .int .i64 y.x.2, .slice y.a (lenF y.l) y.c], .agg #[.string kv.x.1, .int .i64 kv.x.2, .slice kv.a (lenF kv.l) kv.c]] V fun e w' => e = .returned (.int .i64 (cmpN y.tn kv.tn)) ∧ Below V.heap.size V w') := fun V hV =>
              rcompare_all _ y.x kv.x y.a kv.a y.c kv.c y.l kv.l V (Nat.le_refl _) ((((HK.out y (HIn.out y (List.mem_of_getElem? hy))).below HL.out).below HW.out).below hV) ((HTk.out.below HW.out).below hV)
            obtain ⟨cv, hcv⟩ : ∃ cv, cmpN y.tn kv.tn = cv := ⟨_, rfl⟩
            rw [hcv] at HC
            have HY : Hid (out[p]? = some y) := hy
            have HCV : Hid (cmpN y.tn kv.tn = cv) := hcv
            have t0 := below_cell HW.out _ _ s0
            have t1 := below_cell HW.out _ _ s1
            have t2 := below_cell HW.out _ _ s2
            have hne := later_some wr
            have d0 := later_cell y0; have d1 := later_cell y1; have d2 := later_cell y2
            have d3 := later_cell t0; have d4 := later_cell t1; have d5 := later_cell t2
            have hd : decide (0 < p + 1) = true := by simp
            have hp0 : (0 : Int) ≤ (p : Int) := by omega
            have hpn : (p : Int) < (out.length : Int) := by omega
            clear hy hcv y0 y1 y2 t0 t1 t2
            go_wp2_with fail
            refine wp_region_later (by kernel_rfl) (by kernel_rfl) ?_
            repeat (go_big_quiet_step (first | (go_at_call 34; refine calls_later (HC.out _ ?_); exact Later.below _) | fail))
            by_cases hc : 0 < cv
            · refine wpQuiet_nil ?_
              intro _ hw'
              obtain ⟨b3, hw''⟩ := hw'
              subst hw''
              have HW9 : Hid (Below wo.heap.size wo b3.now) := HW.out.trans (b3.below.mono HW.out.size)
              clear d0 d1 d2 d3 d4 d5 hne
              go_wp2
              go_roundw
              case rel =>
                refine ⟨p, by omega, by go_num, HW9.out, fun q z hq hz => ?_⟩
                rcases Nat.lt_or_ge p q with h | h
                · exact HGt.out q z h hz
                · obtain rfl : q = p := by omega
                  rw [HY.out] at hz
                  cases hz
                  rw [HCV.out]
                  exact hc
              case measure => simp [intOf]
            · have hF : Hid (Found out kv (p + 1)) := ⟨hp, HGt.out, .inr (fun z hz => by rw [Nat.add_sub_cancel, HY.out] at hz; cases hz; rw [HCV.out]; omega)⟩
              refine wpQuiet_nil ?_
              intro _ hw'
              obtain ⟨b3, hw''⟩ := hw'
              subst hw''
              have HW9 : Hid (Below wo.heap.size wo b3.now) := HW.out.trans (b3.below.mono HW.out.size)
              obtain ⟨W9, hW9⟩ : ∃ W9, b3.now = W9 := ⟨_, rfl⟩
              rw [hW9] at HW9 ⊢
              clear hW9 d0 d1 d2 d3 d4 d5 hne
              have HA9 : Hid (Below W9.heap.size W9 (W9.alloc (.cells #[] 26))) := (Below.refl _ _).alloc (Nat.le_refl _) _
              have HO9 : Hid (RowAt (W9.alloc (.cells #[] 26)) (some ⟨g, 0, none⟩) out.length out) := (HOT.out.below HW9.out).below HA9.out
              have hz9 := HW9.out.size
              have hpo : (p + 1) ≤ out.length := hF.out.le
              have hq0 : (0 : Int) ≤ (((p + 1) : Nat) : Int) := by omega
              have hq1 : (((p + 1) : Nat) : Int) ≤ (out.length : Int) := by omega
              have hq2 : (((p + 1) : Nat) : Int) ≤ (ocap : Int) := by omega
              by_cases hcap : ocap = p + 1
              · have hdr : out.drop (p + 1) = [] := List.drop_eq_nil_of_le (by omega)
                have hx1 : out.length - (p + 1) = 0 := by omega
                have hx2 : ocap - (p + 1) = 0 := by omega
                have Hcap : Hid (ocap = p + 1) := hcap
                clear hcap
                go_wp2_with (at_builtin; first
                  | (refine wpList_append_kvs rfl (.tmp 32) (.tmp 35) rfl W9.heap.size _ [] rfl (row_empty26 W9) (some ⟨g, 0, none⟩) ((p + 1)) ocap (out.take ((p + 1))) rfl (HO9.out.take hF.out.le) (fun e => by cases e) (by simp <;> omega) (by simp) ?_; intro v1 w1 hown1 hgrow1; have HB1 : Hid (Below W9.heap.size W9 w1) := HA9.out.grown hgrow1 (by simp) (fun k e => by cases e; exact Nat.le_refl _); have HO1 : Hid (w1.ownsRow W9.heap.size 26 3 v1 (out.take ((p + 1))).length (kvCells (out.take ((p + 1))))) := hown1; have t0 := below_cell (HW9.out.trans (HB1.out.mono hz9)) _ _ s0; have t1 := below_cell (HW9.out.trans (HB1.out.mono hz9)) _ _ s1; have t2 := below_cell (HW9.out.trans (HB1.out.mono hz9)) _ _ s2; have hz1 := HB1.out.size; clear hown1 hgrow1)
                  | (refine wpList_append_kvs rfl (.tmp 37) (.tmp 42) rfl W9.heap.size v1 (out.take ((p + 1))) rfl (owns_below HO1.out ((Below.refl _ _).alloc (Nat.le_refl _) _)) (some ⟨w1.heap.size, 0, none⟩) 1 1 [kv] rfl (RowAt.new w1 kv) (fun e => by cases e) (by simp <;> omega) (by rw [World.size_alloc]; omega) ?_; intro v2 w2 hown2 hgrow2; have HB2 : Hid (Below W9.heap.size W9 w2) := (HB1.out.alloc hz1 _).grown hgrow2 (by rw [World.size_alloc]; omega) (fun k e => (owns_cells HO1.out e).1); have HO2 : Hid (w2.ownsRow W9.heap.size 26 3 v2 (out.take ((p + 1)) ++ [kv]).length (kvCells (out.take ((p + 1)) ++ [kv]))) := hown2; have HR2 : Hid (RowAt w2 (some ⟨g, 0, none⟩) out.length out) := (HOT.out.below HW9.out).below HB2.out; have hz2 := HB2.out.size; clear hown2 hgrow2)
                  | (refine wpList_append_kvs rfl (.tmp 44) (.tmp 47) rfl W9.heap.size v2 (out.take ((p + 1)) ++ [kv]) rfl HO2.out (some ⟨g, 0, none⟩) 0 0 (out.drop ((p + 1))) rfl (by rw [hdr]; exact RowAt.empty _ _) (fun e => by cases e) (by simp <;> omega) hz2 ?_; intro v3 w3 hown3 hgrow3; have HB3 : Hid (Below W9.heap.size W9 w3) := HB2.out.grown hgrow3 hz2 (fun k e => (owns_cells HO2.out e).1); have HO3 : Hid (w3.ownsRow W9.heap.size 26 3 v3 (out.take ((p + 1)) ++ [kv] ++ out.drop ((p + 1))).length (kvCells (out.take ((p + 1)) ++ [kv] ++ out.drop ((p + 1))))) := hown3; clear hown3 hgrow3))
                go_roundw
                case rel =>
                  refine ⟨j + 1, v3, out.take ((p + 1)) ++ [kv] ++ out.drop ((p + 1)), by omega, rfl, by go_num, owns_base HO3.out (by have := HL.out.size; omega), ?_, ?_, HL.out.trans ((HW9.out.trans (HB3.out.mono hz9)).mono HL.out.size)⟩
                  · intro k hk
                    simp only [List.mem_append, List.mem_singleton] at hk
                    rcases hk with (hk | rfl) | hk
                    · exact HIn.out k (List.mem_of_mem_take hk)
                    · exact List.mem_of_getElem? HKV.out
                    · exact HIn.out k (List.mem_of_mem_drop hk)
                  · rw [hF.out.ins (by rw [HM.out]; exact sortN_srt _), HM.out, ← sortN_snoc, List.take_add_one, HKV.out]
                    simp
                case measure => simp [intOf]; omega
              · have hx3 : ¬ (ocap - (p + 1) = 0) := by omega
                go_wp2_with (at_builtin; first
                  | (refine wpList_append_kvs rfl (.tmp 32) (.tmp 35) rfl W9.heap.size _ [] rfl (row_empty26 W9) (some ⟨g, 0, none⟩) ((p + 1)) ocap (out.take ((p + 1))) rfl (HO9.out.take hF.out.le) (fun e => by cases e) (by simp <;> omega) (by simp) ?_; intro v1 w1 hown1 hgrow1; have HB1 : Hid (Below W9.heap.size W9 w1) := HA9.out.grown hgrow1 (by simp) (fun k e => by cases e; exact Nat.le_refl _); have HO1 : Hid (w1.ownsRow W9.heap.size 26 3 v1 (out.take ((p + 1))).length (kvCells (out.take ((p + 1))))) := hown1; have t0 := below_cell (HW9.out.trans (HB1.out.mono hz9)) _ _ s0; have t1 := below_cell (HW9.out.trans (HB1.out.mono hz9)) _ _ s1; have t2 := below_cell (HW9.out.trans (HB1.out.mono hz9)) _ _ s2; have hz1 := HB1.out.size; clear hown1 hgrow1)
                  | (refine wpList_append_kvs rfl (.tmp 37) (.tmp 42) rfl W9.heap.size v1 (out.take ((p + 1))) rfl (owns_below HO1.out ((Below.refl _ _).alloc (Nat.le_refl _) _)) (some ⟨w1.heap.size, 0, none⟩) 1 1 [kv] rfl (RowAt.new w1 kv) (fun e => by cases e) (by simp <;> omega) (by rw [World.size_alloc]; omega) ?_; intro v2 w2 hown2 hgrow2; have HB2 : Hid (Below W9.heap.size W9 w2) := (HB1.out.alloc hz1 _).grown hgrow2 (by rw [World.size_alloc]; omega) (fun k e => (owns_cells HO1.out e).1); have HO2 : Hid (w2.ownsRow W9.heap.size 26 3 v2 (out.take ((p + 1)) ++ [kv]).length (kvCells (out.take ((p + 1)) ++ [kv]))) := hown2; have HR2 : Hid (RowAt w2 (some ⟨g, 0, none⟩) out.length out) := (HOT.out.below HW9.out).below HB2.out; have hz2 := HB2.out.size; clear hown2 hgrow2)
                  | (refine wpList_append_kvs rfl (.tmp 44) (.tmp 47) rfl W9.heap.size v2 (out.take ((p + 1)) ++ [kv]) rfl HO2.out (some ⟨g, (p + 1) * 3, none⟩) (out.length - (p + 1)) (ocap - (p + 1)) (out.drop ((p + 1))) rfl (by have := HR2.out.drop (p := p + 1) hpo; rwa [Nat.zero_add] at this) (fun e => by cases e) (by simp <;> omega) hz2 ?_; intro v3 w3 hown3 hgrow3; have HB3 : Hid (Below W9.heap.size W9 w3) := HB2.out.grown hgrow3 hz2 (fun k e => (owns_cells HO2.out e).1); have HO3 : Hid (w3.ownsRow W9.heap.size 26 3 v3 (out.take ((p + 1)) ++ [kv] ++ out.drop ((p + 1))).length (kvCells (out.take ((p + 1)) ++ [kv] ++ out.drop ((p + 1))))) := hown3; clear hown3 hgrow3))
                go_roundw
                case rel =>
                  refine ⟨j + 1, v3, out.take ((p + 1)) ++ [kv] ++ out.drop ((p + 1)), by omega, rfl, by go_num, owns_base HO3.out (by have := HL.out.size; omega), ?_, ?_, HL.out.trans ((HW9.out.trans (HB3.out.mono hz9)).mono HL.out.size)⟩
                  · intro k hk
                    simp only [List.mem_append, List.mem_singleton] at hk
                    rcases hk with (hk | rfl) | hk
                    · exact HIn.out k (List.mem_of_mem_take hk)
                    · exact List.mem_of_getElem? HKV.out
                    · exact HIn.out k (List.mem_of_mem_drop hk)
                  · rw [hF.out.ins (by rw [HM.out]; exact sortN_srt _), HM.out, ← sortN_snoc, List.take_add_one, HKV.out]
                    simp
                case measure => simp [intOf]; omega
    · obtain rfl : j = ks.length := by omega
      have HM' : Hid (out.map Kv.tn = sortN (ks.map Kv.tn)) := by have := HM.out; rwa [List.take_length] at this
      go_wp2
      go_ret
      exact ⟨v, out, rfl, HRow.out, HIn.out, HM'.out, HL.out⟩
end Go.Proofs.YtfnfbljijkjkjaaGreat
/- A list of terms under way: a row of its own, the terms' lists elsewhere; what the document's Clones answers. -/
namespace Go.Proofs.YtfnfbljijkjkjaaGreat
open Go.RowKit Go.Deep

structure Lst (B : Nat) (W : World) (v : Value) (ks : List Kv) : Prop where
  row : W.ownsRow B 26 3 v ks.length (kvCells ks)
  own : ∀ k ∈ ks, OwnTm false (fun q => B ≤ q ∧ some q ≠ v.ownBlock) W k.x k.a k.c k.l
set_option maxRecDepth 100000 in
theorem Lst.nil (B : Nat) (W : World) : Lst B W (.slice none 0 0) [] := ⟨World.ownsRow_nil _ _ _ _, by simp⟩
set_option maxRecDepth 100000 in
theorem Lst.below {B : Nat} {W W' : World} {v : Value} {ks : List Kv} (h : Lst B W v ks) (hb : Below W.heap.size W W') : Lst B W' v ks := ⟨owns_below h.row hb, fun k hk => (h.own k hk).below hb⟩
set_option maxRecDepth 100000 in
theorem Lst.base {B B' : Nat} {W : World} {v : Value} {ks : List Kv} (h : Lst B W v ks) (hB : B' ≤ B) : Lst B' W v ks := ⟨owns_base h.row hB, fun k hk => (h.own k hk).mono (fun q _ hq => ⟨by omega, hq.2⟩)⟩
set_option maxRecDepth 100000 in
theorem Lst.lt {B : Nat} {W : World} {v : Value} {ks : List Kv} {g : Nat} (h : Lst B W v ks) (hg : v.ownBlock = some g) : g < W.heap.size := by
  obtain ⟨cur, hc⟩ := (owns_cells h.row hg).2
  exact (Array.getElem?_eq_some_iff.1 hc).1
set_option maxRecDepth 100000 in
theorem Lst.grow {B : Nat} {W W1 W2 : World} {v v' : Value} {ks ms : List Kv} (h : Lst B W v ks) (hW : Below W.heap.size W W1) (hm : ∀ k ∈ ms, OwnTm false (fun q => W.heap.size ≤ q) W1 k.x k.a k.c k.l) (hB : B ≤ W.heap.size)
    (hg : W1.grownBy W2 v.ownBlock) (hat : v'.ownBlock = v.ownBlock ∨ v'.ownBlock = some W1.heap.size) (ho : W2.ownsRow B 26 3 v' (ks ++ ms).length (kvCells (ks ++ ms))) : Lst B W2 v' (ks ++ ms) := by
  refine ⟨ho, fun k hk => ?_⟩
  have h2 : OwnTm false (fun q => (B ≤ q ∧ some q ≠ v'.ownBlock) ∧ some q ≠ v.ownBlock) W1 k.x k.a k.c k.l := by
    rcases List.mem_append.1 hk with hk | hk
    · have h0 : OwnTm false (fun q => (B ≤ q ∧ some q ≠ v'.ownBlock) ∧ some q ≠ v.ownBlock) W k.x k.a k.c k.l := (h.own k hk).mono (fun q hq hp => ⟨⟨hp.1, by
        rcases hat with e | e
        · rw [e]; exact hp.2
        · rw [e]; intro e'; cases e'; have := hW.size; omega⟩, hp.2⟩)
      exact h0.below hW
    · refine (hm k hk).mono (fun q hq hp => ?_)
      have hne : some q ≠ v.ownBlock := fun e => by have := h.lt e.symm; omega
      refine ⟨⟨by omega, ?_⟩, hne⟩
      rcases hat with e | e
      · rw [e]; exact hne
      · rw [e]; intro e'; cases e'; omega
  exact (h2.keep (fun q hq hlt => hg.block q hlt hq.2)).mono (fun q _ hq => hq.1)
set_option maxRecDepth 100000 in
/-- append of what another slice holds: nil, or some. -/
theorem wpList_append_lst {ops : Array Oper} {rest : List Oper} {o : Oper} {a : Act} {Q : Exit → Act → World → Prop} {W : World} (hgd : o.guard = none) (s x : Operand)
    (ho : o.op = .call { callee := .builtin .append, args := #[s, x], argTypes := #[24, 24] }) (base : Nat) (v : Value) (ks : List Kv) (hs : a.eval s = v) (hown : W.ownsRow base 26 3 v ks.length (kvCells ks))
    (sa : Option Addr) (m c : Nat) (ms : List Kv) (hx : a.eval x = .slice sa m c) (hm : RowAt W sa m ms) (hnil : sa = none → c = 0) (hsome : sa ≠ none → 0 < m) (hbig : ks.length + m ≤ 2932031007400) (hbase : base ≤ W.heap.size)
    (h : ∀ v' w', w'.ownsRow base 26 3 v' (ks ++ ms).length (kvCells (ks ++ ms)) → W.grownBy w' v.ownBlock → (v'.ownBlock = v.ownBlock ∨ v'.ownBlock = some W.heap.size) → wpList Tryz.prog ops Q rest (a.put o.dst v') w') : wpList Tryz.prog ops Q (o :: rest) a W := by
  obtain ⟨i0, hi, hz0, hz1, hz2⟩ := info_parts Tryz.info26
  have hmax : maxLen = 9223372036854775807 := rfl
  rcases sa with _ | ⟨b, off, sp⟩
  · obtain rfl : ms = [] := by
      cases ms with
      | nil => rfl
      | cons k r =>
        obtain ⟨_, _, e, _⟩ := hm.get (j := 0) (k := k) rfl
        cases e
    obtain rfl := hm.len
    obtain rfl := hnil rfl
    refine wpList_append_own_none hgd s x 24 ho base 26 i0 3 Tryz.underlying24 hi v ks.length (kvCells ks) hs hown hx (h v W (by simpa using hown) ?_ (.inl rfl))
    exact ⟨rfl, rfl, rfl, Nat.le_refl _, fun _ _ _ => rfl⟩
  · have hlm := hm.len
    refine wpList_append_lies _ hgd s x 24 ho base 26 i0 _ 3 48 Tryz.underlying24 hi hz0 hz1 hz2 rfl (by decide) v ks.length (kvCells ks) hs hown ⟨b, off, sp⟩ m c (kvCells ms) hx (by rw [kvCells_len, hlm]) (fun j u hu => ?_) (kvCells_one ms) (hsome (by simp)) (by omega) (by omega) hbase _ rfl ?_
    · obtain ⟨b', off', e, hc⟩ := hm.cells j u hu
      cases e
      rw [← hc]
      congr 1
      unfold Addr.add
      split <;> simp_all
    · intro g cap w' h1 h2 h3 _
      refine h _ w' ?_ h2 ?_
      · rw [kvCells_append, List.length_append, ← hlm]
        exact h1
      · rcases h3 with h3 | h3
        · exact .inl h3.symm
        · exact .inr (by rw [h3]; rfl)

set_option maxRecDepth 100000 in
set_option maxHeartbeats 2000000 in
theorem clones_any (a : Option Addr) (F : Fo) (cap : Nat) (w : World) (hA : ArgsAt w a F) (hs : lenF F ≤ 2932031007319) :
    Calls Tryz.prog 99 #[.slice a (lenF F) cap] w fun e w' => ∃ v ks, e = .returned v ∧ Lst w.heap.size w' v ks ∧ (ks = [] → v = .slice none 0 0) ∧ ks.map Kv.tn = kidsL F ∧ Below w.heap.size w w' := by
  have HA : Hid (ArgsAt w a F) := hA
  clear hA
  go_enter Tryz.func99, Tryz.ntmps99
  go_wp2
  go_loopw [3, 4] (fun ov i wr => ∃ (j : Nat) (v : Value) (ks : List Kv), j ≤ lenF F ∧ v = ov ∧ i = .int .i64 j ∧ Lst w.heap.size wr v ks ∧ (ks = [] → v = .slice none 0 0) ∧ ks.map Kv.tn = (kidsL F).take j ∧ Below w.heap.size w wr) (fun _ i _ => lenF F - (intOf i).toNat)
  case atStart => exact ⟨0, _, [], Nat.zero_le _, rfl, rfl, Lst.nil _ _, fun _ => rfl, by simp, Below.refl _ _⟩
  case round =>
    obtain ⟨j, v, ks, hj, rfl, rfl, hL, hnil, hmap, hlow⟩ := hrel
    have HN : Hid (ks = [] → v = .slice none 0 0) := hnil
    have HL : Hid (Lst w.heap.size wr v ks) := hL
    have HM : Hid (ks.map Kv.tn = (kidsL F).take j) := hmap
    have HB : Hid (Below w.heap.size w wr) := hlow
    have hkl : ks.length = j := by
      have := congrArg List.length hmap
      rw [List.length_map, List.length_take, kids_len] at this
      omega
    clear hL hnil hmap hlow
    by_cases hlt : j < lenF F
    · obtain ⟨bb, oo, rfl, hkk⟩ := HA.out.get (by omega)
      obtain ⟨y, a1, c1, l1, kd⟩ := hkk.kid (k := j) hlt
      have kd' := kd.below HB.out
      have p0 := kd'.name; have p1 := kd'.sym; have p2 := kd'.list
      have KD : Hid (Kid wr F bb oo j y a1 c1 l1) := kd'
      have hj0 : (0 : Int) ≤ (j : Int) := by omega
      have hjn : (j : Int) < (lenF F : Int) := by omega
      clear kd kd' hkk
      have HC : Hid (∀ W, Below wr.heap.size wr W → Calls Tryz.prog 33 #[.agg #[.string y.1, .int .i64 y.2, .slice a1 (lenF l1) c1]] W fun e w' => ∃ a' c', e = .returned (.agg #[.string y.1, .int .i64 y.2, .slice a' (lenF l1) c']) ∧ RowTm W.heap.size w' y a' c' l1 ∧ Below W.heap.size W w') := fun W hW => rclone_any y l1 a1 c1 W (KD.out.at_.below hW)
      go_wp2_with (first
        | (go_at_call 33; refine (HC.out _ (Below.refl _ _)).mono ?_; rintro e w1 ⟨a', c', rfl, ho1, hb1⟩; have HO1 : Hid (OwnTm false (fun q => wr.heap.size ≤ q) w1 y a' c' l1) := ho1.own; have HB1 : Hid (Below wr.heap.size wr w1) := hb1; have hz1 := hb1.size; clear ho1 hb1)
        | (at_builtin; refine wpList_append_lst rfl _ _ rfl w.heap.size v ks rfl (owns_below HL.out.row (HB1.out.alloc hz1 _)) (some ⟨w1.heap.size, 0, none⟩) 1 1 [⟨y, l1, a', c'⟩] rfl (RowAt.new w1 ⟨y, l1, a', c'⟩) (fun e => by cases e) (fun _ => Nat.one_pos) (by omega) (by have := HB.out.size; rw [World.size_alloc]; omega) ?_; intro v2 w2 hown2 hgrow2 hat2; have HL2 : Hid (Lst w.heap.size w2 v2 (ks ++ [⟨y, l1, a', c'⟩])) := HL.out.grow (HB1.out.alloc hz1 _) (fun k hk => by simp only [List.mem_singleton] at hk; subst hk; exact HO1.out.below ((Below.refl _ _).alloc (Nat.le_refl _) _)) HB.out.size hgrow2 hat2 hown2; have HB2 : Hid (Below w.heap.size w w2) := HB.out.trans (((HB1.out.alloc hz1 _).mono HB.out.size).grown hgrow2 (by have := HB.out.size; rw [World.size_alloc]; omega) (fun k e => (owns_cells HL.out.row e).1)); clear hown2 hgrow2 hat2))
      go_roundw
      case rel =>
        obtain ⟨B1, O1, sp⟩ := KD.out.split
        exact ⟨j + 1, _, _, by omega, rfl, by go_num, HL2.out, fun e => by simp at e, by rw [kids_take sp, ← HM.out]; simp [Kv.tn], HB2.out⟩
      case measure => simp [intOf]; omega
    · obtain rfl : j = lenF F := by omega
      have HM' : Hid (ks.map Kv.tn = kidsL F) := by have := HM.out; rwa [List.take_of_length_le (by rw [kids_len]; exact Nat.le_refl _)] at this
      go_wp2
      go_ret
      exact ⟨v, ks, rfl, HL.out, HN.out, HM'.out, HB.out⟩
end Go.Proofs.YtfnfbljijkjkjaaGreat
/- What the document's Parts answers, of any term. -/
namespace Go.Proofs.YtfnfbljijkjkjaaGreat
open Go.RowKit Go.Deep

set_option maxRecDepth 100000 in
/-- A list of one new term. -/
theorem Lst.one {B : Nat} {W : World} (k : Kv) (hB : B ≤ W.heap.size) (h : OwnTm false (fun q => B ≤ q) W k.x k.a k.c k.l) : Lst B (W.alloc (.cells #[.string k.x.1, .int .i64 k.x.2, .slice k.a (lenF k.l) k.c] 26)) (.slice (some ⟨W.heap.size, 0, none⟩) 1 1) [k] := by
  refine ⟨⟨rfl, .inr ⟨W.heap.size, 1, _, rfl, hB, World.alloc_heap_new W _, Nat.le_refl _, by decide, rfl, rfl⟩⟩, fun k' hk => ?_⟩
  simp only [List.mem_singleton] at hk
  subst hk
  have h2 : OwnTm false (fun q => B ≤ q ∧ some q ≠ some W.heap.size) W k'.x k'.a k'.c k'.l := h.mono (fun q hq hp => ⟨hp, fun e => by cases e; omega⟩)
  exact h2.below ((Below.refl _ _).alloc (Nat.le_refl _) _)

set_option maxRecDepth 100000 in
set_option maxHeartbeats 2000000 in
theorem parts_any (a : Option Addr) (n cap : Nat) (l : List Sym) (f : Int) (t : Tn) (ta : Option Addr) (tc : Nat) (w : World) (hS : SigAt w a n l) (hT : TmAt w t.1 ta tc t.2) :
    Calls Tryz.prog 78 #[.slice a n cap, .int .i64 f, .agg #[.string t.1.1, .int .i64 t.1.2, .slice ta (lenF t.2) tc]] w fun e w' => ∃ v ks, e = .returned v ∧ Lst w.heap.size w' v ks ∧ (ks = [] → v = .slice none 0 0) ∧ ks.map Kv.tn = partsN (sgOf l) f t ∧ Below w.heap.size w w' := by
  obtain ⟨⟨nm, sy⟩, F⟩ := t
  have HS : Hid (SigAt w a n l) := hS
  have HT : Hid (TmAt w (nm, sy) ta tc F) := hT
  have hb := TBox.new w (nm, sy) ta (lenF F) tc
  have hlow : Hid (Below w.heap.size w (w.alloc (.cells #[.string nm, .int .i64 sy, .slice ta (lenF F) tc] 26))) := (Below.refl _ w).alloc (Nat.le_refl _) _
  have HJ : Hid (∀ W, Below w.heap.size w W → Calls Tryz.prog 59 #[.slice a n cap, .int .i64 f] W fun e w' => e = .returned (.bool (joinsAt l f)) ∧ Below W.heap.size W w') := fun W hW => joins_any a n cap l f W (HS.out.below hW)
  have HU : Hid (∀ W, Below w.heap.size w W → Calls Tryz.prog 79 #[.slice a n cap, .int .i64 f] W fun e w' => UnitRet l f e ∧ w' = W) := fun W hW => runit_any a n cap l f W (HS.out.below hW)
  have HC : Hid (∀ u W, Calls Tryz.prog 98 #[.agg #[.string nm, .int .i64 sy, .slice ta (lenF F) tc], .int .i64 u] W fun e w' => e = .returned (.bool (isConst ((nm, sy), F) u)) ∧ Below W.heap.size W w') := fun u W => constant_any ((nm, sy), F) ta tc u W (by have := HT.out.sizes.few; show lenF F ≤ _; omega)
  have HL : Hid (∀ W, Below w.heap.size w W → Calls Tryz.prog 33 #[.agg #[.string nm, .int .i64 sy, .slice ta (lenF F) tc]] W fun e w' => ∃ a' c', e = .returned (.agg #[.string nm, .int .i64 sy, .slice a' (lenF F) c']) ∧ RowTm W.heap.size w' (nm, sy) a' c' F ∧ Below W.heap.size W w') := fun W hW => rclone_any (nm, sy) F ta tc W (HT.out.below hW)
  have HK : Hid (∀ W, Below w.heap.size w W → Calls Tryz.prog 99 #[.slice ta (lenF F) tc] W fun e w' => ∃ v ks, e = .returned v ∧ Lst W.heap.size w' v ks ∧ (ks = [] → v = .slice none 0 0) ∧ ks.map Kv.tn = kidsL F ∧ Below W.heap.size W w') := fun W hW => clones_any ta F tc W (HT.out.args.below hW) (by have := HT.out.sizes.few; omega)
  clear hS hT
  cases hj : joinsAt l f
  · have e : Hid (partsN (sgOf l) f ((nm, sy), F) = [((nm, sy), F)]) := by show _ = _; unfold partsN; rw [if_pos (show (sgOf l).joins f = false from hj)]
    go_enter Tryz.func78, Tryz.ntmps78
    rw [hj] at HJ
    go_wp2_with (first
      | (go_at_call 59; refine (HJ.out _ hlow.out).mono ?_; rintro e w1 ⟨rfl, hb1⟩; have HB1 : Hid (Below w.heap.size w w1) := hlow.out.trans (hb1.mono (by simp)); have hbx := hb.below hb1; have HBX : Hid (TBox w1 w.heap.size (nm, sy) ta (lenF F) tc) := hbx; have c0 := hbx.c0; have c1 := hbx.c1; have c2 := hbx.c2; clear hb1 hbx)
      | (go_at_call 33; refine (HL.out _ HB1.out).mono ?_; rintro e w2 ⟨a', c', rfl, ho2, hb2⟩; have HO2 : Hid (RowTm w1.heap.size w2 (nm, sy) a' c' F) := ho2; have HB2 : Hid (Below w.heap.size w w2) := HB1.out.trans (hb2.mono HB1.out.size); clear ho2 hb2))
    go_ret
    refine ⟨_, [⟨(nm, sy), F, a', c'⟩], rfl, Lst.one ⟨(nm, sy), F, a', c'⟩ HB2.out.size (HO2.out.own.mono (fun q _ hq => Nat.le_trans HB1.out.size hq)), (fun h => by simp at h), by rw [e.out]; rfl, HB2.out.alloc HB2.out.size _⟩
  · have hj' : ¬ (sgOf l).joins f = false := by show ¬ joinsAt l f = false; rw [hj]; simp
    have rest : isUn (sgOf l) f ((nm, sy), F) = false → partsN (sgOf l) f ((nm, sy), F) = if headed f ((nm, sy), F) then kidsL F else [((nm, sy), F)] := fun h => by unfold partsN; rw [if_neg hj', if_neg (by rw [h]; simp)]
    have REST : Hid (isUn (sgOf l) f ((nm, sy), F) = false → partsN (sgOf l) f ((nm, sy), F) = if headed f ((nm, sy), F) then kidsL F else [((nm, sy), F)]) := rest
    have NONE : Hid (isUn (sgOf l) f ((nm, sy), F) = true → partsN (sgOf l) f ((nm, sy), F) = []) := fun h => by unfold partsN; rw [if_neg hj', if_pos h]
    clear rest hj'
    obtain ⟨ui, hui⟩ : ∃ ui, unitI l f = ui := ⟨_, rfl⟩
    cases huo : unitOk l f
    · have hun : Hid (isUn (sgOf l) f ((nm, sy), F) = false) := by show _ = _; unfold unitOk at huo; cases hq : unitAt l f with | none => simp [isUn, sgOf, hq] | some i => rw [hq] at huo; simp at huo
      cases hn : nm.toList.isEmpty
      · have e : Hid (partsN (sgOf l) f ((nm, sy), F) = [((nm, sy), F)]) := by show _ = _; rw [REST.out hun.out]; unfold headed noName; rw [hn]; simp
        go_enter Tryz.func78, Tryz.ntmps78
        rw [hj] at HJ
        go_wp2_with (first
          | (go_at_call 59; refine (HJ.out _ hlow.out).mono ?_; rintro e w1 ⟨rfl, hb1⟩; have HB1 : Hid (Below w.heap.size w w1) := hlow.out.trans (hb1.mono (by simp)); have hbx := hb.below hb1; have HBX : Hid (TBox w1 w.heap.size (nm, sy) ta (lenF F) tc) := hbx; have c0 := hbx.c0; have c1 := hbx.c1; have c2 := hbx.c2; clear hb1 hbx)
          | (go_at_call 79; refine (HU.out _ HB1.out).mono ?_; rintro e w9 ⟨he, hw9⟩; unfold UnitRet at he; rw [hui, huo] at he; subst he; rw [hw9]; clear hw9)
          | (go_at_call 33; refine (HL.out _ HB1.out).mono ?_; rintro e w2 ⟨a', c', rfl, ho2, hb2⟩; have HO2 : Hid (RowTm w1.heap.size w2 (nm, sy) a' c' F) := ho2; have HB2 : Hid (Below w.heap.size w w2) := HB1.out.trans (hb2.mono HB1.out.size); clear ho2 hb2))
        go_ret
        refine ⟨_, [⟨(nm, sy), F, a', c'⟩], rfl, Lst.one ⟨(nm, sy), F, a', c'⟩ HB2.out.size (HO2.out.own.mono (fun q _ hq => Nat.le_trans HB1.out.size hq)), (fun h => by simp at h), by rw [e.out]; rfl, HB2.out.alloc HB2.out.size _⟩
      · cases hs : (sy == f)
        · have e : Hid (partsN (sgOf l) f ((nm, sy), F) = [((nm, sy), F)]) := by show _ = _; rw [REST.out hun.out]; unfold headed; rw [hs]; simp
          go_enter Tryz.func78, Tryz.ntmps78
          rw [hj] at HJ
          go_wp2_with (first
            | (go_at_call 59; refine (HJ.out _ hlow.out).mono ?_; rintro e w1 ⟨rfl, hb1⟩; have HB1 : Hid (Below w.heap.size w w1) := hlow.out.trans (hb1.mono (by simp)); have hbx := hb.below hb1; have HBX : Hid (TBox w1 w.heap.size (nm, sy) ta (lenF F) tc) := hbx; have c0 := hbx.c0; have c1 := hbx.c1; have c2 := hbx.c2; clear hb1 hbx)
            | (go_at_call 79; refine (HU.out _ HB1.out).mono ?_; rintro e w9 ⟨he, hw9⟩; unfold UnitRet at he; rw [hui, huo] at he; subst he; rw [hw9]; clear hw9)
            | (go_at_call 33; refine (HL.out _ HB1.out).mono ?_; rintro e w2 ⟨a', c', rfl, ho2, hb2⟩; have HO2 : Hid (RowTm w1.heap.size w2 (nm, sy) a' c' F) := ho2; have HB2 : Hid (Below w.heap.size w w2) := HB1.out.trans (hb2.mono HB1.out.size); clear ho2 hb2))
          go_ret
          refine ⟨_, [⟨(nm, sy), F, a', c'⟩], rfl, Lst.one ⟨(nm, sy), F, a', c'⟩ HB2.out.size (HO2.out.own.mono (fun q _ hq => Nat.le_trans HB1.out.size hq)), (fun h => by simp at h), by rw [e.out]; rfl, HB2.out.alloc HB2.out.size _⟩
        · have e : Hid (partsN (sgOf l) f ((nm, sy), F) = kidsL F) := by show _ = _; rw [REST.out hun.out]; unfold headed noName; rw [hn, hs]; simp
          go_enter Tryz.func78, Tryz.ntmps78
          rw [hj] at HJ
          go_wp2_with (first
            | (go_at_call 59; refine (HJ.out _ hlow.out).mono ?_; rintro e w1 ⟨rfl, hb1⟩; have HB1 : Hid (Below w.heap.size w w1) := hlow.out.trans (hb1.mono (by simp)); have hbx := hb.below hb1; have HBX : Hid (TBox w1 w.heap.size (nm, sy) ta (lenF F) tc) := hbx; have c0 := hbx.c0; have c1 := hbx.c1; have c2 := hbx.c2; clear hb1 hbx)
            | (go_at_call 79; refine (HU.out _ HB1.out).mono ?_; rintro e w9 ⟨he, hw9⟩; unfold UnitRet at he; rw [hui, huo] at he; subst he; rw [hw9]; clear hw9)
            | (go_at_call 99; refine (HK.out _ HB1.out).mono ?_; rintro e w2 ⟨v, ks, rfl, ho2, hn2, hm2, hb2⟩; have HO2 : Hid (Lst w.heap.size w2 v ks) := ho2.base HB1.out.size; have HN2 : Hid (ks = [] → v = .slice none 0 0) := hn2; have HM2 : Hid (ks.map Kv.tn = kidsL F) := hm2; have HB2 : Hid (Below w.heap.size w w2) := HB1.out.trans (hb2.mono HB1.out.size); clear ho2 hn2 hm2 hb2))
          go_ret
          refine ⟨v, ks, rfl, HO2.out, HN2.out, by rw [HM2.out, e.out], HB2.out⟩
    · have hcc : Hid (isUn (sgOf l) f ((nm, sy), F) = isConst ((nm, sy), F) ui) := by
        show _ = _
        rw [← hui]
        unfold unitOk at huo
        cases hq : unitAt l f with
        | none => rw [hq] at huo; simp at huo
        | some i => simp [isUn, sgOf, unitI, hq]
      cases hcu : isConst ((nm, sy), F) ui
      · have hun : Hid (isUn (sgOf l) f ((nm, sy), F) = false) := by show _ = _; rw [hcc.out, hcu]
        cases hn : nm.toList.isEmpty
        · have e : Hid (partsN (sgOf l) f ((nm, sy), F) = [((nm, sy), F)]) := by show _ = _; rw [REST.out hun.out]; unfold headed noName; rw [hn]; simp
          go_enter Tryz.func78, Tryz.ntmps78
          rw [hj] at HJ
          go_wp2_with (first
            | (go_at_call 59; refine (HJ.out _ hlow.out).mono ?_; rintro e w1 ⟨rfl, hb1⟩; have HB1 : Hid (Below w.heap.size w w1) := hlow.out.trans (hb1.mono (by simp)); have hbx := hb.below hb1; have HBX : Hid (TBox w1 w.heap.size (nm, sy) ta (lenF F) tc) := hbx; have c0 := hbx.c0; have c1 := hbx.c1; have c2 := hbx.c2; clear hb1 hbx)
            | (go_at_call 79; refine (HU.out _ HB1.out).mono ?_; rintro e w9 ⟨he, hw9⟩; unfold UnitRet at he; rw [hui, huo] at he; subst he; rw [hw9]; clear hw9)
            | (go_at_call 98; refine (HC.out _ _).mono ?_; rintro e w3 ⟨he, hb3⟩; rw [hcu] at he; subst he; have HB3 : Hid (Below w.heap.size w w3) := HB1.out.trans (hb3.mono HB1.out.size); have hby := HBX.out.below hb3; have d0 := hby.c0; have d1 := hby.c1; have d2 := hby.c2; clear hb3 hby)
            | (go_at_call 33; refine (HL.out _ HB3.out).mono ?_; rintro e w2 ⟨a', c', rfl, ho2, hb2⟩; have HO2 : Hid (RowTm w3.heap.size w2 (nm, sy) a' c' F) := ho2; have HB2 : Hid (Below w.heap.size w w2) := HB3.out.trans (hb2.mono HB3.out.size); clear ho2 hb2))
          go_ret
          refine ⟨_, [⟨(nm, sy), F, a', c'⟩], rfl, Lst.one ⟨(nm, sy), F, a', c'⟩ HB2.out.size (HO2.out.own.mono (fun q _ hq => Nat.le_trans HB3.out.size hq)), (fun h => by simp at h), by rw [e.out]; rfl, HB2.out.alloc HB2.out.size _⟩
        · cases hs : (sy == f)
          · have e : Hid (partsN (sgOf l) f ((nm, sy), F) = [((nm, sy), F)]) := by show _ = _; rw [REST.out hun.out]; unfold headed; rw [hs]; simp
            go_enter Tryz.func78, Tryz.ntmps78
            rw [hj] at HJ
            go_wp2_with (first
              | (go_at_call 59; refine (HJ.out _ hlow.out).mono ?_; rintro e w1 ⟨rfl, hb1⟩; have HB1 : Hid (Below w.heap.size w w1) := hlow.out.trans (hb1.mono (by simp)); have hbx := hb.below hb1; have HBX : Hid (TBox w1 w.heap.size (nm, sy) ta (lenF F) tc) := hbx; have c0 := hbx.c0; have c1 := hbx.c1; have c2 := hbx.c2; clear hb1 hbx)
              | (go_at_call 79; refine (HU.out _ HB1.out).mono ?_; rintro e w9 ⟨he, hw9⟩; unfold UnitRet at he; rw [hui, huo] at he; subst he; rw [hw9]; clear hw9)
              | (go_at_call 98; refine (HC.out _ _).mono ?_; rintro e w3 ⟨he, hb3⟩; rw [hcu] at he; subst he; have HB3 : Hid (Below w.heap.size w w3) := HB1.out.trans (hb3.mono HB1.out.size); have hby := HBX.out.below hb3; have d0 := hby.c0; have d1 := hby.c1; have d2 := hby.c2; clear hb3 hby)
              | (go_at_call 33; refine (HL.out _ HB3.out).mono ?_; rintro e w2 ⟨a', c', rfl, ho2, hb2⟩; have HO2 : Hid (RowTm w3.heap.size w2 (nm, sy) a' c' F) := ho2; have HB2 : Hid (Below w.heap.size w w2) := HB3.out.trans (hb2.mono HB3.out.size); clear ho2 hb2))
            go_ret
            refine ⟨_, [⟨(nm, sy), F, a', c'⟩], rfl, Lst.one ⟨(nm, sy), F, a', c'⟩ HB2.out.size (HO2.out.own.mono (fun q _ hq => Nat.le_trans HB3.out.size hq)), (fun h => by simp at h), by rw [e.out]; rfl, HB2.out.alloc HB2.out.size _⟩
          · have e : Hid (partsN (sgOf l) f ((nm, sy), F) = kidsL F) := by show _ = _; rw [REST.out hun.out]; unfold headed noName; rw [hn, hs]; simp
            go_enter Tryz.func78, Tryz.ntmps78
            rw [hj] at HJ
            go_wp2_with (first
              | (go_at_call 59; refine (HJ.out _ hlow.out).mono ?_; rintro e w1 ⟨rfl, hb1⟩; have HB1 : Hid (Below w.heap.size w w1) := hlow.out.trans (hb1.mono (by simp)); have hbx := hb.below hb1; have HBX : Hid (TBox w1 w.heap.size (nm, sy) ta (lenF F) tc) := hbx; have c0 := hbx.c0; have c1 := hbx.c1; have c2 := hbx.c2; clear hb1 hbx)
              | (go_at_call 79; refine (HU.out _ HB1.out).mono ?_; rintro e w9 ⟨he, hw9⟩; unfold UnitRet at he; rw [hui, huo] at he; subst he; rw [hw9]; clear hw9)
              | (go_at_call 98; refine (HC.out _ _).mono ?_; rintro e w3 ⟨he, hb3⟩; rw [hcu] at he; subst he; have HB3 : Hid (Below w.heap.size w w3) := HB1.out.trans (hb3.mono HB1.out.size); have hby := HBX.out.below hb3; have d0 := hby.c0; have d1 := hby.c1; have d2 := hby.c2; clear hb3 hby)
              | (go_at_call 99; refine (HK.out _ HB3.out).mono ?_; rintro e w2 ⟨v, ks, rfl, ho2, hn2, hm2, hb2⟩; have HO2 : Hid (Lst w.heap.size w2 v ks) := ho2.base HB3.out.size; have HN2 : Hid (ks = [] → v = .slice none 0 0) := hn2; have HM2 : Hid (ks.map Kv.tn = kidsL F) := hm2; have HB2 : Hid (Below w.heap.size w w2) := HB3.out.trans (hb2.mono HB3.out.size); clear ho2 hn2 hm2 hb2))
            go_ret
            refine ⟨v, ks, rfl, HO2.out, HN2.out, by rw [HM2.out, e.out], HB2.out⟩
      · have e : Hid (partsN (sgOf l) f ((nm, sy), F) = []) := NONE.out (by rw [hcc.out, hcu])
        go_enter Tryz.func78, Tryz.ntmps78
        rw [hj] at HJ
        go_wp2_with (first
          | (go_at_call 59; refine (HJ.out _ hlow.out).mono ?_; rintro e w1 ⟨rfl, hb1⟩; have HB1 : Hid (Below w.heap.size w w1) := hlow.out.trans (hb1.mono (by simp)); have hbx := hb.below hb1; have HBX : Hid (TBox w1 w.heap.size (nm, sy) ta (lenF F) tc) := hbx; have c0 := hbx.c0; have c1 := hbx.c1; have c2 := hbx.c2; clear hb1 hbx)
          | (go_at_call 79; refine (HU.out _ HB1.out).mono ?_; rintro e w9 ⟨he, hw9⟩; unfold UnitRet at he; rw [hui, huo] at he; subst he; rw [hw9]; clear hw9)
          | (go_at_call 98; refine (HC.out _ _).mono ?_; rintro e w3 ⟨he, hb3⟩; rw [hcu] at he; subst he; have HB3 : Hid (Below w.heap.size w w3) := HB1.out.trans (hb3.mono HB1.out.size); have hby := HBX.out.below hb3; have d0 := hby.c0; have d1 := hby.c1; have d2 := hby.c2; clear hb3 hby))
        go_ret
        exact ⟨_, [], rfl, Lst.nil _ _, fun _ => rfl, by rw [e.out]; rfl, HB3.out⟩
end Go.Proofs.YtfnfbljijkjkjaaGreat
