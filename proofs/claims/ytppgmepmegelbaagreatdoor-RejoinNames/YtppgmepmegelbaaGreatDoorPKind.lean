/- What kindAt, headAt, gathers and isUnit of package canon answer. -/
import Derived.Test.YtppgmepmegelbaaGreatDoorPUnit
import Derived.Test.YtppgmepmegelbaaGreatDoorPCan
import Derived.Test.YtppgmepmegelbaaGreatDoorTCmp
namespace Go.Proofs.YtppgmepmegelbaaGreatDoor
open Go.RowKit Go.Deep

set_option maxRecDepth 100000 in
set_option maxHeartbeats 400000 in
theorem kindAt_any (a : Option Addr) (n cap : Nat) (l : List Sym) (z : Int) (w : World) (h : SigAt w a n l) :
    Calls Tryz.prog 65 #[.slice a n cap, .int .i64 z] w fun e w' => e = .returned (.int .i64 (kindK l z)) ∧ w' = w := by
  have HS : Hid (SigAt w a n l) := h
  have hm := h.small
  unfold maxLen at hm
  clear h
  by_cases h0 : z < 0
  · have hu : Hid (kindK l z = 1) := by show _ = _; unfold kindK; rw [symAt_out (by omega)]
    go_enter Tryz.func65, Tryz.ntmps65
    go_wp2
    go_ret
    exact ⟨by rw [hu.out]; rfl, rfl⟩
  · obtain ⟨k, rfl⟩ := Int.eq_ofNat_of_zero_le (by omega : 0 ≤ z)
    by_cases h1 : (n : Int) ≤ k
    · have hu : Hid (kindK l k = 1) := by show _ = _; unfold kindK; rw [symAt_out (by have := HS.out.len; omega)]
      go_enter Tryz.func65, Tryz.ntmps65
      go_wp2
      go_ret
      exact ⟨by rw [hu.out]; rfl, rfl⟩
    · have hlk : k < l.length := by have := HS.out.len; omega
      obtain ⟨b, off, rfl, hw⟩ := HS.out.cells k hlk
      have c1 := hw.kind
      clear hw
      have hk : Hid (kindK l k = if 1 ≤ l[k].kind ∧ l[k].kind ≤ 3 then l[k].kind else 1) := by show _ = _; unfold kindK; rw [symAt_in hlk]
      by_cases h2 : l[k].kind < 1
      · go_enter Tryz.func65, Tryz.ntmps65
        go_wp2
        go_ret
        exact ⟨by rw [hk.out, if_neg (by omega)]; rfl, rfl⟩
      · by_cases h3 : 3 < l[k].kind
        · go_enter Tryz.func65, Tryz.ntmps65
          go_wp2
          go_ret
          exact ⟨by rw [hk.out, if_neg (by omega)]; rfl, rfl⟩
        · go_enter Tryz.func65, Tryz.ntmps65
          go_wp2
          go_ret
          exact ⟨by rw [hk.out, if_pos (by omega)]; rfl, rfl⟩

/-- A symbol with all that its arguments' laying hangs on. -/
def headV (a : Option Addr) (n cap : Nat) (l : List Sym) (f : Int) : Array Value := #[.slice a n cap, .int .i64 f, .int .i64 (kindK l f), .int .i64 (unitI l f), .bool (unitOk l f)]
/-- A struct's cells in a block of their own. -/
def Box (W : World) (B : Nat) (T : TypeId) (cs : Array Value) : Prop := W.heap[B]? = some (.cells cs T (0, 0))
theorem Box.new (W : World) (T : TypeId) (cs : Array Value) : Box (W.alloc (.cells cs T)) W.heap.size T cs := World.alloc_heap_new W _
theorem Box.c {W : World} {B : Nat} {T : TypeId} {cs : Array Value} (h : Box W B T cs) (k : Nat) : W.cell? ⟨B, k, none⟩ = cs[k]? := by simp [World.cell?, show W.heap[B]? = _ from h]
theorem Box.f {W : World} {B : Nat} {T : TypeId} {cs : Array Value} (h : Box W B T cs) (k : Nat) : W.frozen? ⟨B, k, none⟩ = false := by simp [World.frozen?, show W.heap[B]? = _ from h]
theorem Box.lt {W : World} {B : Nat} {T : TypeId} {cs : Array Value} (h : Box W B T cs) : B < W.heap.size := (Array.getElem?_eq_some_iff.1 h).1
theorem Box.below {W W' : World} {B : Nat} {T : TypeId} {cs : Array Value} (h : Box W B T cs) (hb : Below W.heap.size W W') : Box W' B T cs := (hb.block B h.lt).trans h
theorem Box.set {W : World} {B : Nat} {T : TypeId} {cs : Array Value} (h : Box W B T cs) (k : Nat) (u : Value) : Box (W.setCell ⟨B, k, none⟩ u) B T (cs.setIfInBounds k u) := block_set h u
theorem Box.all5 {W : World} {B : Nat} {T : TypeId} {a b c d e : Value} (h : Box W B T #[a, b, c, d, e]) (u0 u1 u2 u3 u4 : Value) : Box (((((W.setCell ⟨B, 0, none⟩ u0).setCell ⟨B, 1, none⟩ u1).setCell ⟨B, 2, none⟩ u2).setCell ⟨B, 3, none⟩ u3).setCell ⟨B, 4, none⟩ u4) B T #[u0, u1, u2, u3, u4] := ((((h.set 0 u0).set 1 u1).set 2 u2).set 3 u3).set 4 u4
theorem Tryz.size84 : (Tryz.prog.info? 84).map (·.size) = some 5 := by kernel_rfl
set_option maxRecDepth 100000 in
set_option maxHeartbeats 400000 in
theorem headAt_any (a : Option Addr) (n cap : Nat) (l : List Sym) (z : Int) (w : World) (h : SigAt w a n l) :
    Calls Tryz.prog 43 #[.slice a n cap, .int .i64 z] w fun e w' => e = .returned (.agg (headV a n cap l z)) ∧ Below w.heap.size w w' := by
  have HS : Hid (SigAt w a n l) := h
  clear h
  have HU : Hid (∀ W, Below w.heap.size w W → Calls Tryz.prog 64 #[.slice a n cap, .int .i64 z] W fun e w' => UnitRet l z e ∧ Below W.heap.size W w') := fun W hW => sunit_any a n cap l z W (HS.out.below hW)
  have HK : Hid (∀ W, Below w.heap.size w W → Calls Tryz.prog 65 #[.slice a n cap, .int .i64 z] W fun e w' => e = .returned (.int .i64 (kindK l z)) ∧ w' = W) := fun W hW => kindAt_any a n cap l z W (HS.out.below hW)
  go_enter Tryz.func43, Tryz.ntmps43
  go_wp2_with (first
    | (go_at_call 64; refine (HU.out _ ((Below.refl _ w).alloc (Nat.le_refl _) _)).mono ?_; rintro e w1 ⟨he, hb1⟩; have HB1 : Hid (Below w.heap.size w w1) := ((Below.refl _ w).alloc (Nat.le_refl _) _).trans (hb1.mono (by simp)); have HX : Box w1 w.heap.size 84 #[.slice none 0 0, .int .i64 0, .int .i64 0, .int .i64 0, .bool false] := (Box.new w 84 _).below hb1; have k0 := HX.c 0; have k1 := HX.c 1; have k2 := HX.c 2; have k3 := HX.c 3; have k4 := HX.c 4; have f0 := HX.f 0; have f1 := HX.f 1; have f2 := HX.f 2; have f3 := HX.f 3; have f4 := HX.f 4; have HXX : Hid (Box w1 w.heap.size 84 #[.slice none 0 0, .int .i64 0, .int .i64 0, .int .i64 0, .bool false]) := HX; unfold UnitRet at he; subst he; clear hb1 HX)
    | (go_at_call 65; refine (HK.out _ HB1.out).mono ?_; rintro e w2 ⟨rfl, rfl⟩))
  refine bodyPost_ret (results_cell_row rfl _ _ w.heap.size 84 (headV a n cap l z) (0, 0) _ rfl (HXX.out.all5 _ _ _ _ _) Tryz.underlying84 rfl Tryz.size84) rfl ?_
  refine ⟨rfl, ?_⟩
  exact ((((HB1.out.setCell (p := ⟨w.heap.size, 0, none⟩) (Nat.le_refl _) _).setCell (p := ⟨w.heap.size, 1, none⟩) (Nat.le_refl _) _).setCell (p := ⟨w.heap.size, 2, none⟩) (Nat.le_refl _) _).setCell (p := ⟨w.heap.size, 3, none⟩) (Nat.le_refl _) _).setCell (p := ⟨w.heap.size, 4, none⟩) (Nat.le_refl _) _
set_option maxRecDepth 100000 in
set_option maxHeartbeats 400000 in
theorem gathers_any (hv : Option Addr) (n cap : Nat) (f k u : Int) (hu : Bool) (t : Tn) (a : Option Addr) (c : Nat) (w : World) :
    Calls Tryz.prog 121 #[.agg #[.slice hv n cap, .int .i64 f, .int .i64 k, .int .i64 u, .bool hu], .agg #[.string t.1.1, .int .i64 t.1.2, .slice a (lenF t.2) c]] w fun e w' => e = .returned (.bool (!decide (k = 1) && headed f t)) ∧ Below w.heap.size w w' := by
  obtain ⟨⟨nm, s⟩, F⟩ := t
  have hr : Hid (headed f ((nm, s), F) = (nm.toList.isEmpty && s == f)) := rfl
  by_cases h1 : k = 1
  · go_enter Tryz.func121, Tryz.ntmps121
    go_wp2
    go_ret
    exact ⟨by simp [h1], ((Below.refl _ w).alloc (Nat.le_refl _) _).alloc (by simp) _⟩
  · cases h2 : nm.toList.isEmpty
    · go_enter Tryz.func121, Tryz.ntmps121
      go_wp2
      go_ret
      exact ⟨by rw [hr.out, h2]; simp, ((Below.refl _ w).alloc (Nat.le_refl _) _).alloc (by simp) _⟩
    · go_enter Tryz.func121, Tryz.ntmps121
      go_wp2
      go_ret
      exact ⟨by rw [hr.out, h2]; simp [h1], ((Below.refl _ w).alloc (Nat.le_refl _) _).alloc (by simp) _⟩
/-- A fixed term, which lies nowhere. -/
theorem tm_const (w : World) (u : Int) : TmAt w (noB, u) none 0 .nil := ⟨⟨by show noB.size ≤ maxLen; decide, Nat.le_refl _, Nat.zero_le _, by simp [lenF]⟩, .inl rfl⟩
set_option maxRecDepth 100000 in
set_option maxHeartbeats 400000 in
theorem same_any (x y : Tn) (a b : Option Addr) (c d : Nat) (w : World) (hS : TmAt w x.1 a c x.2) (hT : TmAt w y.1 b d y.2) :
    Calls Tryz.prog 138 #[.agg #[.string x.1.1, .int .i64 x.1.2, .slice a (lenF x.2) c], .agg #[.string y.1.1, .int .i64 y.1.2, .slice b (lenF y.2) d]] w fun e w' => e = .returned (.bool (cmpN x y == 0)) ∧ Below w.heap.size w w' := by
  obtain ⟨⟨xn, xs⟩, l⟩ := x
  obtain ⟨⟨yn, ys⟩, m⟩ := y
  obtain ⟨cv, hcv⟩ : ∃ cv, cmpN ((xn, xs), l) ((yn, ys), m) = cv := ⟨_, rfl⟩
  have HB0 : Hid (Below w.heap.size w ((w.alloc (.cells #[.string xn, .int .i64 xs, .slice a (lenF l) c] 28)).alloc (.cells #[.string yn, .int .i64 ys, .slice b (lenF m) d] 28))) := ((Below.refl _ w).alloc (Nat.le_refl _) _).alloc (by simp) _
  have HC : Hid (∀ V, Below w.heap.size w V → Calls Tryz.prog 67 #[.agg #[.string xn, .int .i64 xs, .slice a (lenF l) c], .agg #[.string yn, .int .i64 ys, .slice b (lenF m) d]] V fun e w' => e = .returned (.int .i64 cv) ∧ Below V.heap.size V w') := fun V hV => by
    have := compare_all _ (xn, xs) (yn, ys) a b c d l m V (Nat.le_refl _) (hS.below hV) (hT.below hV)
    rw [show cmp1 (xn, xs) (yn, ys) (lenF l) (lenF m) (cmpF l m) = cv from hcv] at this
    exact this.mono fun _ _ h => ⟨h.1, h.2.below⟩
  rw [hcv]
  clear hcv hS hT
  go_enter Tryz.func138, Tryz.ntmps138
  go_wp2_with (go_at_call 67; refine (HC.out _ HB0.out).mono ?_; rintro e w1 ⟨rfl, hb1⟩; have HB1 : Hid (Below w.heap.size w w1) := HB0.out.trans (hb1.mono HB0.out.size); clear hb1)
  go_ret
  exact ⟨rfl, HB1.out⟩
theorem cmp_const (t : Tn) (u : Int) : (cmpN t (constT u) == 0) = isConst t u := by
  obtain ⟨⟨nm, s⟩, F⟩ := t
  unfold cmpN isConst constT cmp1
  cases h1 : noName nm with
  | false => simp [noName_noB]
  | true =>
    simp only [noName_noB]
    by_cases h2 : s = u
    · subst h2
      by_cases h3 : lenF F = 0
      · rw [len_nil h3]; simp [lenF, cmpF]
      · have h4 : (Lib.compareInt (lenF F) 0 == 0) = false := by
          have : ¬ Lib.compareInt (lenF F) 0 = 0 := by unfold Lib.compareInt; split <;> omega
          simpa using this
        have h5 : (lenF F == 0) = false := by simpa using h3
        simp [lenF, h3, h4, h5]
    · have h4 : (Lib.compareInt s u == 0) = false := by
        have : ¬ Lib.compareInt s u = 0 := by unfold Lib.compareInt; split <;> omega
        simpa using this
      have h5 : (s == u) = false := by simpa using h2
      simp [h2, h4, h5]
def isUnB (l : List Sym) (f : Int) (t : Tn) : Bool := unitOk l f && isConst t (unitI l f)
theorem isUnB_eq (l : List Sym) (f : Int) (t : Tn) : isUnB l f t = isUn (sgOf l) f t := by
  unfold isUnB isUn unitOk unitI
  show _ = (match (unitAt l f).map (fun (i : Nat) => (i : Int)) with | some u => isConst t u | none => false)
  cases unitAt l f <;> simp
set_option maxRecDepth 100000 in
set_option maxHeartbeats 400000 in
theorem isUnit_any (hv : Option Addr) (n cap : Nat) (f k : Int) (l : List Sym) (t : Tn) (a : Option Addr) (c : Nat) (w : World) (hT : TmAt w t.1 a c t.2) :
    Calls Tryz.prog 124 #[.agg #[.slice hv n cap, .int .i64 f, .int .i64 k, .int .i64 (unitI l f), .bool (unitOk l f)], .agg #[.string t.1.1, .int .i64 t.1.2, .slice a (lenF t.2) c]] w fun e w' => e = .returned (.bool (isUnB l f t)) ∧ Below w.heap.size w w' := by
  obtain ⟨⟨nm, s⟩, F⟩ := t
  obtain ⟨u, hu⟩ : ∃ u, unitI l f = u := ⟨_, rfl⟩
  have hr : Hid (isUnB l f ((nm, s), F) = (unitOk l f && (cmpN ((nm, s), F) (constT u) == 0))) := by show _ = _; rw [cmp_const, ← hu]; rfl
  obtain ⟨r, hrr⟩ : ∃ r, (cmpN ((nm, s), F) (constT u) == 0) = r := ⟨_, rfl⟩
  have HC : Hid (∀ V, Below w.heap.size w V → Calls Tryz.prog 138 #[.agg #[.string nm, .int .i64 s, .slice a (lenF F) c], .agg #[.string ⟨#[]⟩, .int .i64 u, .slice none 0 0]] V fun e w' => e = .returned (.bool r) ∧ Below V.heap.size V w') := fun V hV => by
    have := same_any ((nm, s), F) (constT u) a none c 0 V (hT.below hV) (tm_const V u)
    rw [hrr] at this
    exact this
  rw [hrr] at hr
  rw [hu]
  clear hrr hu hT
  have HB0 : Hid (Below w.heap.size w ((w.alloc (.cells #[.slice hv n cap, .int .i64 f, .int .i64 k, .int .i64 u, .bool (unitOk l f)] 84)).alloc (.cells #[.string nm, .int .i64 s, .slice a (lenF F) c] 28))) := ((Below.refl _ w).alloc (Nat.le_refl _) _).alloc (by simp) _
  cases ho : unitOk l f
  · rw [ho] at hr HB0
    go_enter Tryz.func124, Tryz.ntmps124
    go_wp2
    go_ret
    exact ⟨by rw [hr.out]; rfl, HB0.out⟩
  · rw [ho] at hr HB0
    go_enter Tryz.func124, Tryz.ntmps124
    go_wp2_with (go_at_call 138; refine (HC.out _ HB0.out).mono ?_; rintro e w1 ⟨rfl, hb1⟩; have HB1 : Hid (Below w.heap.size w w1) := HB0.out.trans (hb1.mono HB0.out.size); clear hb1)
    go_ret
    exact ⟨by rw [hr.out]; rfl, HB1.out⟩
end Go.Proofs.YtppgmepmegelbaaGreatDoor
