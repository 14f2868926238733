import Derived.Test.YtokbgbbkopmngabTSpoil
import Derived.Test.YtokbgbbkopmngabSgOf
import Derived.Test.YtokbgbbkopmngabDvR
import Derived.Test.YtokbgbbkopmngabLeaf
import Derived.Test.YtokbgbbkopmngabChkPlain
import Derived.Test.YtokbgbbkopmngabLater
/- What the document's Exact answers of any two terms. -/
namespace Go.Proofs.Ytokbgbbkopmngab
open Go.RowKit Go.Deep

/-- Alike in every field. -/
def exF : Fo → Fo → Bool
  | .nil, _ => true
  | .node _ _ _ _ _, .nil => true
  | .node _ _ x l r, .node _ _ y m s => ((x.1.toList == y.1.toList) && (x.2 == y.2) && (lenF l == lenF m) && exF l m) && exF r s
def exN (x y : ByteArray × Int) (l m : Fo) : Bool := (x.1.toList == y.1.toList) && (x.2 == y.2) && (lenF l == lenF m) && exF l m
def RExactOk (k : Nat) : Prop := ∀ (x y : ByteArray × Int) (l m : Fo) (a b : Option Addr) (c d : Nat) (w : World), nodesF l ≤ k → TmAt w x a c l → TmAt w y b d m →
  Calls Try.prog 10 #[.agg #[.string x.1, .int .i64 x.2, .slice a (lenF l) c], .agg #[.string y.1, .int .i64 y.2, .slice b (lenF m) d]] w fun e w' => e = .returned (.bool (exN x y l m)) ∧ Below w.heap.size w w'

set_option maxRecDepth 100000 in
set_option maxHeartbeats 2000000 in
theorem rexact_all : ∀ k, RExactOk k := by
  intro k
  induction k using Nat.strongRecOn with
  | _ k ih =>
    intro x y l m a b c d w hk hS hT
    have HS : Hid (TmAt w x a c l) := hS
    have HT : Hid (TmAt w y b d m) := hT
    have IH : Hid (∀ j, j < k → RExactOk j) := ih
    have PA : Hid (Pair w x a (lenF l) c y b (lenF m) d ((w.alloc (.cells #[.string x.1, .int .i64 x.2, .slice a (lenF l) c] 26)).alloc (.cells #[.string y.1, .int .i64 y.2, .slice b (lenF m) d] 26))) := Pair.new _ _ _ _ _ _ _ _ _
    have hn : lenF l ≤ 9223372036854775807 := by have := hS.sizes.len; have := hS.sizes.cap; unfold maxLen at *; omega
    have hn2 : lenF m ≤ 9223372036854775807 := by have := hT.sizes.len; have := hT.sizes.cap; unfold maxLen at *; omega
    clear hS hT ih
    obtain ⟨xn, xs⟩ := x
    obtain ⟨yn, ys⟩ := y
    cases h1 : (xn.toList == yn.toList)
    · have e : Hid (exN (xn, xs) (yn, ys) l m = false) := by show _ = _; unfold exN; rw [h1]; rfl
      have hd : ¬ (xn.toList = yn.toList) := by simpa using h1
      go_enter Try.func10, Try.ntmps10
      go_wp2
      go_ret
      exact ⟨by rw [e.out]; rfl, PA.out.low⟩
    · cases h2 : (xs == ys)
      · have e : Hid (exN (xn, xs) (yn, ys) l m = false) := by show _ = _; unfold exN; rw [h1, h2]; rfl
        have h2' : (xs != ys) = true := by simpa using h2
        go_enter Try.func10, Try.ntmps10
        go_wp2
        go_ret
        exact ⟨by rw [e.out]; rfl, PA.out.low⟩
      · obtain rfl : xs = ys := by simpa using h2
        cases h3 : (lenF l == lenF m)
        · have e : Hid (exN (xn, xs) (yn, xs) l m = false) := by show _ = _; unfold exN; rw [h3]; simp
          have h3' : ((lenF l : Int) != (lenF m : Int)) = true := by simp at h3 ⊢; omega
          clear h2 h3
          go_enter Try.func10, Try.ntmps10
          go_wp2
          go_ret
          exact ⟨by rw [e.out]; rfl, PA.out.low⟩
        · have e : Hid (exN (xn, xs) (yn, xs) l m = exF l m) := by show _ = _; unfold exN; rw [h1, h2, h3]; rfl
          have h3' : lenF m = lenF l := by simp at h3; omega
          have HLen : Hid (lenF m = lenF l) := h3'
          rw [h3'] at PA
          dsimp only
          rw [h3']
          clear h2 h3 h3' hn2
          go_enter Try.func10, Try.ntmps10
          go_wp2
          go_loopw [5, 6] (fun i _ wr => ∃ j : Nat, j ≤ lenF l ∧ i = .int .i64 j ∧ Pair w (xn, xs) a (lenF l) c (yn, xs) b (lenF l) d wr ∧ exF (dropF j l) (dropF j m) = exF l m) (fun i _ _ => lenF l - (intOf i).toNat)
          case atStart => exact ⟨0, Nat.zero_le _, rfl, PA.out, by rw [drop_zero, drop_zero]⟩
          case round =>
            obtain ⟨j, hj, rfl, hP, hex⟩ := hrel
            have HX : Hid (exF (dropF j l) (dropF j m) = exF l m) := hex
            clear hex
            have t2 := hP.l.c2
            by_cases hlt : j < lenF l
            · obtain ⟨b1, o1, rfl, hk1⟩ := HS.out.args.get (by omega)
              obtain ⟨bb, oo, rfl, hkk⟩ := HT.out.args.get (by have := HLen.out; omega)
              obtain ⟨z, a1, c1, l1, kd⟩ := hk1.kid (k := j) hlt
              obtain ⟨z', a2, c2, l2, kd2⟩ := hkk.kid (k := j) (by have := HLen.out; omega)
              have kd' := kd.below hP.low
              have kd2' := kd2.below hP.low
              have HP : Hid (Pair w (xn, xs) (some ⟨b1, o1, none⟩) (lenF l) c (yn, xs) (some ⟨bb, oo, none⟩) (lenF l) d wr) := hP
              have HX2 : Hid (exF l m = (exN z z' l1 l2 && exF (dropF (j + 1) l) (dropF (j + 1) m))) := by
                obtain ⟨B1, O1, s1⟩ := kd.split
                obtain ⟨B2, O2, s2⟩ := kd2.split
                show _ = _
                rw [← HX.out, s1, s2]
                rfl
              obtain ⟨ev, hev⟩ : ∃ ev, exN z z' l1 l2 = ev := ⟨_, rfl⟩
              have hC : Hid (∀ w', Below wr.heap.size wr w' → Calls Try.prog 10 #[.agg #[.string z.1, .int .i64 z.2, .slice a1 (lenF l1) c1], .agg #[.string z'.1, .int .i64 z'.2, .slice a2 (lenF l2) c2]] w' fun e w'' => e = .returned (.bool ev) ∧ Below w'.heap.size w' w'') := fun w' hb => by
                have := IH.out (nodesF l1) (by have := kd.less; omega) z z' l1 l2 a1 a2 c1 c2 w' (Nat.le_refl _) (kd'.at_.below hb) (kd2'.at_.below hb)
                rw [hev] at this
                exact this
              rw [hev] at HX2
              have hne := later_some wr
              have d0 := later_cell hP.l.c2
              have d1 := later_cell hP.r.c2
              have p0 := later_cell kd'.name; have p1 := later_cell kd'.sym; have p2 := later_cell kd'.list
              have q0 := later_cell kd2'.name; have q1 := later_cell kd2'.sym; have q2 := later_cell kd2'.list
              have hk0 : (0 : Int) ≤ (j : Int) := by omega
              have hkn : (j : Int) < (lenF l : Int) := by omega
              clear kd kd2 kd' kd2' hk1 hkk hP hev
              go_wp2_with fail
              refine wp_region_later (by kernel_rfl) (by kernel_rfl) ?_
              repeat (go_big_quiet_step ((refine calls_later (hC.out _ ?_); exact Later.below _)))
              refine wpQuiet_nil ?_
              intro _ hw'
              obtain ⟨b2, hw''⟩ := hw'
              subst hw''
              have HP2 : Hid (Pair w (xn, xs) (some ⟨b1, o1, none⟩) (lenF l) c (yn, xs) (some ⟨bb, oo, none⟩) (lenF l) d b2.now) := HP.out.below b2.below
              clear d0 d1 p0 p1 p2 q0 q1 q2 t2
              cases ev with
              | true =>
                go_wp2
                go_roundw
                case rel => exact ⟨j + 1, by omega, by go_num, HP2.out, by rw [HX2.out]; simp⟩
                case measure => simp [intOf]; omega
              | false =>
                go_wp2
                go_ret
                exact ⟨by rw [e.out, HX2.out]; rfl, HP2.out.low⟩
            · obtain rfl : j = lenF l := by omega
              have hX3 : Hid (exF l m = true) := by show _ = _; rw [← HX.out, drop_end]; rfl
              go_wp2
              go_ret
              exact ⟨by rw [e.out, hX3.out]; rfl, hP.low⟩
set_option maxRecDepth 100000 in
theorem rexact_any (x y : Tn) (a b : Option Addr) (c d : Nat) (w : World) (hS : TmAt w x.1 a c x.2) (hT : TmAt w y.1 b d y.2) :
    Calls Try.prog 10 #[.agg #[.string x.1.1, .int .i64 x.1.2, .slice a (lenF x.2) c], .agg #[.string y.1.1, .int .i64 y.1.2, .slice b (lenF y.2) d]] w fun e w' => e = .returned (.bool (exN x.1 y.1 x.2 y.2)) ∧ Below w.heap.size w w' :=
  rexact_all _ x.1 y.1 x.2 y.2 a b c d w (Nat.le_refl _) hS hT
end Go.Proofs.Ytokbgbbkopmngab
/- What Name and Var of package sig, and the document's, answer of any text. -/
namespace Go.Proofs.Ytokbgbbkopmngab
open Go.RowKit

set_option maxHeartbeats 400000 in
theorem rname_any (s : ByteArray) (w : World) (hs : s.size ≤ maxLen) : Calls Try.prog 28 #[.string s] w fun e w' => e = .returned (.bool (nameB s)) ∧ w' = w := by
  unfold maxLen at hs
  by_cases h0 : (s.size : Int) < 1
  · go_enter Try.func28, Try.ntmps28
    go_wp2
    go_ret
    exact ⟨by simp [nameB, fitsB]; omega, rfl⟩
  · by_cases h1 : 12 < (s.size : Int)
    · go_enter Try.func28, Try.ntmps28
      go_wp2
      go_ret
      exact ⟨by simp [nameB, fitsB]; omega, rfl⟩
    · have hp : 0 < s.size := by omega
      have hfit : Hid (fitsB s = true) := by show fitsB s = true; simp [fitsB]; omega
      cases hl : lowZ ((s[0]'hp).toNat : Int)
      · have hbad : Hid (nameB s = false) := by
          show nameB s = false
          unfold nameB
          rw [hfit.out, allB_false hp (by rw [bt_of hp]; simp [okName, hl])]; rfl
        go_enter Try.func28, Try.ntmps28
        go_wp2_with (go_at_call 31; refine (rlow_any _ _).mono ?_; rintro e w' ⟨rfl, rfl⟩)
        go_ret
        exact ⟨by rw [hbad.out]; rfl, rfl⟩
      · have h01 : Hid (allB okName s 1 = true) := by
          show allB okName s 1 = true
          rw [allB_succ, allB_zero, bt_of hp]; simp [okName, hl]
        go_enter Try.func28, Try.ntmps28
        go_wp2_with (go_at_call 31; refine (rlow_any _ _).mono ?_; rintro e w' ⟨rfl, rfl⟩)
        go_loop [3] (fun i => ∃ k : Nat, 1 ≤ k ∧ k ≤ s.size ∧ i = .int .i64 k ∧ allB okName s k = true) (fun i => s.size - (intOf i).toNat)
        case atStart => exact ⟨1, Nat.le_refl _, hp, rfl, h01.out⟩
        case round =>
          obtain ⟨k, hk1, hk, rfl, hall⟩ := hrel
          have HA : Hid (allB okName s k = true) := hall
          clear hall
          by_cases hlt : k < s.size
          · have hst : Hid (∀ b, okName k ((s[k]'hlt).toNat : Int) = b → allB okName s (k + 1) = b) := by
              intro b hb; rw [allB_succ, HA.out, bt_of hlt, hb]; rfl
            have hbad : Hid (okName k ((s[k]'hlt).toNat : Int) = false → nameB s = false) := by
              intro hb; unfold nameB; rw [allB_false hlt (by rw [bt_of hlt]; exact hb)]; simp
            cases hlk : lowZ ((s[k]'hlt).toNat : Int)
            · cases hdk : digZ ((s[k]'hlt).toNat : Int)
              · go_wp2_with (first | (go_at_call 31; refine (rlow_any _ _).mono ?_; rintro e w' ⟨rfl, rfl⟩) | (go_at_call 29; refine (rdigit_any _ _).mono ?_; rintro e w' ⟨rfl, rfl⟩))
                go_ret
                exact ⟨by rw [hbad.out (by simp [okName, hlk, hdk])]; rfl, rfl⟩
              · go_wp2_with (first | (go_at_call 31; refine (rlow_any _ _).mono ?_; rintro e w' ⟨rfl, rfl⟩) | (go_at_call 29; refine (rdigit_any _ _).mono ?_; rintro e w' ⟨rfl, rfl⟩))
                go_round
                case rel => exact ⟨k + 1, by omega, by omega, by go_num, hst.out _ (by simp [okName, hdk]; omega)⟩
                case measure => simp [intOf]; omega
            · go_wp2_with (first | (go_at_call 31; refine (rlow_any _ _).mono ?_; rintro e w' ⟨rfl, rfl⟩) | (go_at_call 29; refine (rdigit_any _ _).mono ?_; rintro e w' ⟨rfl, rfl⟩))
              go_round
              case rel => exact ⟨k + 1, by omega, by omega, by go_num, hst.out _ (by simp [okName, hlk])⟩
              case measure => simp [intOf]; omega
          · have hke : s.size = k := by omega
            have hgood : Hid (nameB s = true) := by show nameB s = true; unfold nameB; rw [hfit.out, hke, HA.out]; rfl
            clear hke
            go_wp2
            go_ret
            exact ⟨by rw [hgood.out]; rfl, rfl⟩

end Go.Proofs.Ytokbgbbkopmngab
/- What the document's symbol and Check answer. -/
namespace Go.Proofs.Ytokbgbbkopmngab
open Go.RowKit

theorem box_facts {w w1 : World} {x : Sym} (hb : Below (w.heap.size + 1) (w.alloc (.cells #[.string x.name, .int .i64 x.kind, .int .i64 x.arity, .string x.unit] 57)) w1) :
    w1.cell? ⟨w.heap.size, 0, none⟩ = some (.string x.name) ∧ w1.cell? ⟨w.heap.size, 1, none⟩ = some (.int .i64 x.kind) ∧ w1.cell? ⟨w.heap.size, 2, none⟩ = some (.int .i64 x.arity) ∧ w1.cell? ⟨w.heap.size, 3, none⟩ = some (.string x.unit) ∧ w.heap.size < w1.heap.size ∧ Below w.heap.size w w1 := by
  refine ⟨?_, ?_, ?_, ?_, ?_, ?_⟩
  · rw [hb.cell (p := ⟨w.heap.size, 0, none⟩) (by simp)]; simp [go_sem]
  · rw [hb.cell (p := ⟨w.heap.size, 1, none⟩) (by simp)]; simp [go_sem]
  · rw [hb.cell (p := ⟨w.heap.size, 2, none⟩) (by simp)]; simp [go_sem]
  · rw [hb.cell (p := ⟨w.heap.size, 3, none⟩) (by simp)]; simp [go_sem]
  · have := hb.size; simp at this; omega
  · exact ((Below.refl _ _).alloc (Nat.le_refl _) _).trans (hb.mono (by omega))
def freshB (l : List Sym) (nm : ByteArray) : Bool := l.all fun y => !sameB y.name nm
theorem fresh_find (l : List Sym) (nm : ByteArray) : findB l nm = !freshB l nm := by
  unfold findB findL freshB
  rw [List.findIdx?_isSome]
  induction l with
  | nil => rfl
  | cons y l ih => simp only [List.any_cons, List.all_cons, ih]; cases sameB y.name nm <;> simp
theorem fresh_succ {l : List Sym} {k : Nat} (hk : k < l.length) (nm : ByteArray) : freshB (l.take (k + 1)) nm = (freshB (l.take k) nm && !sameB l[k].name nm) := by
  unfold freshB
  rw [List.take_succ_eq_append_getElem hk, List.all_append]
  simp
def okB (l : List Sym) (x : Sym) (k : Nat) : Bool := nameB x.name && freshB (l.take k) x.name
theorem okB_zero (l : List Sym) (x : Sym) : okB l x 0 = nameB x.name := by simp [okB, freshB]
theorem okB_succ {l : List Sym} {k : Nat} (hk : k < l.length) (x : Sym) : okB l x (k + 1) = (okB l x k && !sameB l[k].name x.name) := by
  unfold okB; rw [fresh_succ hk, Bool.and_assoc]
theorem okB_err {l : List Sym} {x : Sym} {k : Nat} (h : okB l x k = false) : symErr (l.take k) x = 11 := by
  unfold symErr
  rw [if_pos]
  unfold okB at h
  rw [fresh_find]
  cases h1 : nameB x.name
  · exact Or.inr rfl
  · rw [h1] at h; simp at h; left; simp [h]
theorem okB_ok {l : List Sym} {x : Sym} {k : Nat} (h : okB l x k = true) : ¬ (findB (l.take k) x.name = true ∨ nameB x.name = false) := by
  unfold okB at h
  rw [fresh_find]
  simp at h
  simp [h.1, h.2]
theorem err12 {l : List Sym} {x : Sym} (h : ¬ (findB l x.name = true ∨ nameB x.name = false)) (hk : kindB x = false) : symErr l x = 12 := by
  unfold symErr; rw [if_neg h, if_pos hk]
theorem err13 {l : List Sym} {x : Sym} (h : ¬ (findB l x.name = true ∨ nameB x.name = false)) (hk : kindB x = true) (ha : arityB x = false) : symErr l x = 13 := by
  unfold symErr; rw [if_neg h, if_neg (by simp [hk]), if_pos ha]
theorem err14 {l : List Sym} {x : Sym} (h : ¬ (findB l x.name = true ∨ nameB x.name = false)) (hk : kindB x = true) (ha : arityB x = true) : symErr l x = if unitB l x = false then 14 else 0 := by
  unfold symErr; rw [if_neg h, if_neg (by simp [hk]), if_neg (by simp [ha])]

set_option maxHeartbeats 1000000 in
theorem rsymbol_any (a : Option Addr) (n cap : Nat) (l : List Sym) (i : Nat) (hi : i < l.length) (w : World) (h : SigAt w a n l) :
    Calls Try.prog 23 #[.slice a n cap, .int .i64 i] w fun e w' => e = .returned (.int .i64 (symErr (l.take i) l[i])) ∧ Below w.heap.size w w' := by
  have HS : Hid (SigAt w a n l) := h
  have hm := h.small
  have hin : (i : Int) < n := by have := h.len; omega
  have hi0 : (0 : Int) ≤ i := by omega
  unfold maxLen at hm
  clear h
  obtain ⟨b, off, rfl, hsym⟩ := HS.out.cells i hi
  have hfx : Hid (l[i].Fits) := HS.out.fits _ (List.getElem_mem hi)
  have c0 := hsym.name
  have c1 := hsym.kind
  have c2 := hsym.arity
  have c3 := hsym.unit
  clear hsym
  go_enter Try.func23, Try.ntmps23
  go_wp2_with (go_at_call 28; refine (rname_any _ _ hfx.out.name).mono ?_; rintro e w1 hh; obtain ⟨rfl, hw⟩ := hh; rw [hw]; clear hw w1)
  clear c0 c1 c2 c3
  generalize hx : l[i] = x at *
  have HX : Hid (l[i] = x) := hx
  clear hx
  go_loopw [6, 7] (fun ok k w' => ∃ j : Nat, j ≤ i ∧ k = .int .i64 j ∧ ok = .bool (okB l x j) ∧ Below (w.heap.size + 1) (w.alloc (.cells #[.string x.name, .int .i64 x.kind, .int .i64 x.arity, .string x.unit] 57)) w') (fun _ k _ => i - (intOf k).toNat)
  case atStart => exact ⟨0, Nat.zero_le _, rfl, by rw [okB_zero], (Below.refl _ _)⟩
  case round =>
    obtain ⟨j, hj, rfl, rfl, hb⟩ := hrel
    have HB : Hid (Below (w.heap.size + 1) (w.alloc (.cells #[.string x.name, .int .i64 x.kind, .int .i64 x.arity, .string x.unit] 57)) wr) := hb
    obtain ⟨x0, x1, x2, x3, hz, hbw⟩ := box_facts hb
    have HW : Hid (Below w.heap.size w wr) := hbw
    by_cases hlt : (j : Int) < i
    · have hlj : j < l.length := by omega
      obtain ⟨b', off', hbo, hsj⟩ := HS.out.cells j hlj
      simp only [Option.some.injEq, Addr.mk.injEq, and_true] at hbo
      obtain ⟨rfl, rfl⟩ := hbo
      have s0 := (hsj.below hbw).name
      clear hsj hb hbw
      have hj0 : (0 : Int) ≤ (j : Int) := by omega
      have hjn : (j : Int) < (n : Int) := by omega
      have hne := later_some wr
      have d0 := later_cell s0
      have d1 := later_cell x0
      have hok := okB_succ hlj x
      have HO : Hid (okB l x (j + 1) = (okB l x j && !sameB l[j].name x.name)) := hok
      clear hok
      cases ho : okB l x j
      · go_wp2
        refine wp_region_later (by kernel_rfl) (by kernel_rfl) ?_
        repeat (go_big_quiet_step (fail))
        refine wpQuiet_nil ?_
        intro _ hw'
        obtain ⟨b2, hw''⟩ := hw'
        subst hw''
        clear d0 d1 x0 x1 x2 x3 s0
        go_wp2
        go_roundw
        case rel => exact ⟨j + 1, by omega, by go_num, by rw [HO.out, ho]; rfl, HB.out.trans (b2.below.mono (by omega))⟩
        case measure => simp [intOf]; omega
      · go_wp2
        refine wp_region_later (by kernel_rfl) (by kernel_rfl) ?_
        repeat (go_big_quiet_step (fail))
        refine wpQuiet_nil ?_
        intro _ hw'
        obtain ⟨b2, hw''⟩ := hw'
        subst hw''
        clear d0 d1 x0 x1 x2 x3 s0
        go_wp2
        go_roundw
        case rel => exact ⟨j + 1, by omega, by go_num, by rw [HO.out, ho]; rfl, HB.out.trans (b2.below.mono (by omega))⟩
        case measure => simp [intOf]; omega
    · have hji : Hid (j = i) := by show j = i; omega
      clear hb hbw
      cases ho : okB l x j
      · have hf : Hid (symErr (l.take i) x = 11) := okB_err (by rw [← hji.out]; exact ho)
        go_wp2
        go_ret
        exact ⟨by rw [HX.out, hf.out]; rfl, HW.out⟩
      · have hgood : Hid (¬ (findB (l.take i) x.name = true ∨ nameB x.name = false)) := okB_ok (by rw [← hji.out]; exact ho)
        by_cases k1 : x.kind = 1
        · have K1 : Hid (x.kind = 1) := k1
          have e1 : (x.kind != 1) = false := by simp [k1]
          have e2 : (x.kind == 1) = true := by simp [k1]
          have e3 : (x.kind != 3) = true := by simp [k1]
          have hkb : Hid (kindB x = true) := by show _ = _; simp [kindB, k1]
          have hkn3 : Hid (x.kind ≠ 3) := by show _ ≠ _; omega
          clear k1
          by_cases r0 : x.arity < 0
          · have hf : Hid (symErr (l.take i) x = 13) := err13 hgood.out hkb.out (by simp [arityB, K1.out]; omega)
            go_wp2
            go_ret
            exact ⟨by rw [HX.out, hf.out]; rfl, HW.out⟩
          · by_cases r4 : 4 < x.arity
            · have hf : Hid (symErr (l.take i) x = 13) := err13 hgood.out hkb.out (by simp [arityB, K1.out]; omega)
              go_wp2
              go_ret
              exact ⟨by rw [HX.out, hf.out]; rfl, HW.out⟩
            · have har : Hid (arityB x = true) := by show _ = _; simp [arityB, K1.out]; omega
              cases hu : x.unit.toList.isEmpty
              · have hf : Hid (symErr (l.take i) x = 14) := by
                  show _ = _
                  rw [err14 hgood.out hkb.out har.out, if_pos (by simp [unitB, hkn3.out, emptyB, hu])]
                go_wp2
                go_ret
                exact ⟨by rw [HX.out, hf.out]; rfl, HW.out⟩
              · have hf : Hid (symErr (l.take i) x = 0) := by
                  show _ = _
                  rw [err14 hgood.out hkb.out har.out, if_neg (by simp [unitB, hkn3.out, emptyB, hu])]
                go_wp2
                go_ret
                exact ⟨by rw [HX.out, hf.out]; rfl, HW.out⟩
        · have e1 : (x.kind != 1) = true := by simp [k1]
          have e2 : (x.kind == 1) = false := by simp [k1]
          by_cases k2 : x.kind = 2
          · have e4 : (x.kind != 2) = false := by simp [k2]
            have e3 : (x.kind != 3) = true := by simp [k2]
            have hkb : Hid (kindB x = true) := by show _ = _; simp [kindB, k2]
            have hkn3 : Hid (x.kind ≠ 3) := by show _ ≠ _; omega
            have hkn1 : Hid (x.kind ≠ 1) := k1
            clear k1 k2
            cases r2 : (x.arity != 2)
            · have har : Hid (arityB x = true) := by show _ = _; simp [arityB, hkn1.out]; simpa using r2
              cases hu : x.unit.toList.isEmpty
              · have hf : Hid (symErr (l.take i) x = 14) := by
                  show _ = _
                  rw [err14 hgood.out hkb.out har.out, if_pos (by simp [unitB, hkn3.out, emptyB, hu])]
                go_wp2
                go_ret
                exact ⟨by rw [HX.out, hf.out]; rfl, HW.out⟩
              · have hf : Hid (symErr (l.take i) x = 0) := by
                  show _ = _
                  rw [err14 hgood.out hkb.out har.out, if_neg (by simp [unitB, hkn3.out, emptyB, hu])]
                go_wp2
                go_ret
                exact ⟨by rw [HX.out, hf.out]; rfl, HW.out⟩
            · have hf : Hid (symErr (l.take i) x = 13) := err13 hgood.out hkb.out (by simp [arityB, hkn1.out]; simpa using r2)
              go_wp2
              go_ret
              exact ⟨by rw [HX.out, hf.out]; rfl, HW.out⟩
          · have e4 : (x.kind != 2) = true := by simp [k2]
            by_cases k3 : x.kind = 3
            · have e3 : (x.kind != 3) = false := by simp [k3]
              have hkb : Hid (kindB x = true) := by show _ = _; simp [kindB, k3]
              have hkn1 : Hid (x.kind ≠ 1) := k1
              have K3 : Hid (x.kind = 3) := k3
              clear k1 k2 k3
              cases r2 : (x.arity != 2)
              · have har : Hid (arityB x = true) := by show _ = _; simp [arityB, hkn1.out]; simpa using r2
                go_wp2
                have HB0 : Hid (Below (w.heap.size + 1) (w.alloc (.cells #[.string x.name, .int .i64 x.kind, .int .i64 x.arity, .string x.unit] 57)) wr) := HB.out
                clear x0 x1 x2 x3 hz ho hlt
                go_loopw [8] (fun k w' => ∃ j : Nat, j ≤ i ∧ k = .int .i64 j ∧ (∀ m (hm : m < l.length), m < j → isUnit x l[m] = false) ∧ Below (w.heap.size + 1) (w.alloc (.cells #[.string x.name, .int .i64 x.kind, .int .i64 x.arity, .string x.unit] 57)) w') (fun k _ => i - (intOf k).toNat)
                case atStart => exact ⟨0, Nat.zero_le _, rfl, fun m _ h => absurd h (by omega), HB0.out⟩
                case round =>
                  rename_i wq
                  obtain ⟨j2, hj2, rfl, hno, hb⟩ := hrel
                  have HN : Hid (∀ m (hm : m < l.length), m < j2 → isUnit x l[m] = false) := hno
                  have HB2 : Hid (Below (w.heap.size + 1) (w.alloc (.cells #[.string x.name, .int .i64 x.kind, .int .i64 x.arity, .string x.unit] 57)) wr) := hb
                  obtain ⟨x0, x1, x2, x3, hz, hbw⟩ := box_facts hb
                  have HW2 : Hid (Below w.heap.size w wr) := hbw
                  clear hno
                  by_cases hlt2 : (j2 : Int) < i
                  · have hlj : j2 < l.length := by omega
                    obtain ⟨b', off', hbo, hsj⟩ := HS.out.cells j2 hlj
                    simp only [Option.some.injEq, Addr.mk.injEq, and_true] at hbo
                    obtain ⟨rfl, rfl⟩ := hbo
                    have s0 := (hsj.below hbw).name
                    have s1 := (hsj.below hbw).kind
                    have s2 := (hsj.below hbw).arity
                    clear hsj hb hbw
                    have hj0 : (0 : Int) ≤ (j2 : Int) := by omega
                    have hjn : (j2 : Int) < (n : Int) := by omega
                    have hne := later_some wr
                    have d0 := later_cell s0
                    have d1 := later_cell s1
                    have d2 := later_cell s2
                    have d3 := later_cell x3
                    cases t1 : (l[j2].kind == 1)
                    · have hu : Hid (isUnit x l[j2] = false) := by show _ = _; simp at t1; simp [isUnit, t1]
                      go_wp2
                      refine wp_region_later (by kernel_rfl) (by kernel_rfl) ?_
                      repeat (go_big_quiet_step (fail))
                      refine wpQuiet_nil ?_
                      intro _ hw'
                      obtain ⟨b2, hw''⟩ := hw'
                      subst hw''
                      clear d0 d1 d2 d3 x0 x1 x2 x3 s0 s1 s2
                      go_wp2
                      go_roundw
                      case rel => exact ⟨j2 + 1, by omega, by go_num, fun m hm h => by
                        rcases Nat.lt_succ_iff_lt_or_eq.1 h with h | rfl
                        · exact HN.out m hm h
                        · exact hu.out, HB2.out.trans (b2.below.mono (by omega))⟩
                      case measure => simp [intOf]; omega
                    · cases t2 : (l[j2].arity == 0)
                      · have hu : Hid (isUnit x l[j2] = false) := by show _ = _; simp at t2; simp [isUnit, t2]
                        go_wp2
                        refine wp_region_later (by kernel_rfl) (by kernel_rfl) ?_
                        repeat (go_big_quiet_step (fail))
                        refine wpQuiet_nil ?_
                        intro _ hw'
                        obtain ⟨b2, hw''⟩ := hw'
                        subst hw''
                        clear d0 d1 d2 d3 x0 x1 x2 x3 s0 s1 s2
                        go_wp2
                        go_roundw
                        case rel => exact ⟨j2 + 1, by omega, by go_num, fun m hm h => by
                          rcases Nat.lt_succ_iff_lt_or_eq.1 h with h | rfl
                          · exact HN.out m hm h
                          · exact hu.out, HB2.out.trans (b2.below.mono (by omega))⟩
                        case measure => simp [intOf]; omega
                      · cases t3 : (l[j2].name.toList == x.unit.toList)
                        · have hu : Hid (isUnit x l[j2] = false) := by show _ = _; simp [isUnit, sameB, t3]
                          go_wp2
                          refine wp_region_later (by kernel_rfl) (by kernel_rfl) ?_
                          repeat (go_big_quiet_step (fail))
                          refine wpQuiet_nil ?_
                          intro _ hw'
                          obtain ⟨b2, hw''⟩ := hw'
                          subst hw''
                          clear d0 d1 d2 d3 x0 x1 x2 x3 s0 s1 s2
                          go_wp2
                          go_roundw
                          case rel => exact ⟨j2 + 1, by omega, by go_num, fun m hm h => by
                            rcases Nat.lt_succ_iff_lt_or_eq.1 h with h | rfl
                            · exact HN.out m hm h
                            · exact hu.out, HB2.out.trans (b2.below.mono (by omega))⟩
                          case measure => simp [intOf]; omega
                        · have hu : Hid (isUnit x l[j2] = true) := by show _ = _; simp at t1 t2; simp [isUnit, sameB, t1, t2, t3]
                          have hf : Hid (symErr (l.take i) x = 0) := by
                            show _ = _
                            rw [err14 hgood.out hkb.out har.out, if_neg]
                            rw [Bool.not_eq_false]
                            unfold unitB
                            rw [if_pos K3.out, List.any_eq_true]
                            exact ⟨l[j2], by rw [List.mem_take_iff_getElem]; exact ⟨j2, by omega, rfl⟩, hu.out⟩
                          go_wp2
                          refine wp_region_later (by kernel_rfl) (by kernel_rfl) ?_
                          repeat (go_big_quiet_step (fail))
                          refine wpQuiet_nil ?_
                          intro _ hw'
                          obtain ⟨b2, hw''⟩ := hw'
                          subst hw''
                          clear d0 d1 d2 d3 x0 x1 x2 x3 s0 s1 s2
                          go_wp2
                          go_ret
                          exact ⟨by rw [HX.out, hf.out]; rfl, HW2.out.trans (b2.below.mono HW2.out.size)⟩
                  · have hf : Hid (symErr (l.take i) x = 14) := by
                      show _ = _
                      rw [err14 hgood.out hkb.out har.out, if_pos]
                      unfold unitB
                      rw [if_pos K3.out, List.any_eq_false]
                      intro y hy
                      obtain ⟨m, hm1, rfl⟩ := List.getElem_of_mem hy
                      have hm2 : m < i := by simp at hm1; omega
                      have := HN.out m (by omega) (by omega)
                      simp [this]
                    clear hb hbw
                    go_wp2
                    go_ret
                    exact ⟨by rw [HX.out, hf.out]; rfl, HW2.out⟩
              · have hf : Hid (symErr (l.take i) x = 13) := err13 hgood.out hkb.out (by simp [arityB, hkn1.out]; simpa using r2)
                go_wp2
                go_ret
                exact ⟨by rw [HX.out, hf.out]; rfl, HW.out⟩
            · have e3 : (x.kind != 3) = true := by simp [k3]
              have hf : Hid (symErr (l.take i) x = 12) := err12 hgood.out (by simp [kindB, k1, k2, k3])
              clear k1 k2 k3
              go_wp2
              go_ret
              exact ⟨by rw [HX.out, hf.out]; rfl, HW.out⟩
end Go.Proofs.Ytokbgbbkopmngab
/- What the document's Check and Same answer, and what kept answers of a signature that reads as it did. -/
namespace Go.Proofs.Ytokbgbbkopmngab
open Go.RowKit

def CheckRet (l : List Sym) (e : Ending) : Prop := e = .returned (.tuple #[.int .i64 (checkE l), .int .i64 (checkP l)])

set_option maxHeartbeats 400000 in
theorem rcheck_any (a : Option Addr) (n cap : Nat) (l : List Sym) (w : World) (h : SigAt w a n l) :
    Calls Try.prog 18 #[.slice a n cap] w fun e w' => CheckRet l e ∧ Below w.heap.size w w' := by
  have HS : Hid (SigAt w a n l) := h
  have hm := h.small
  unfold maxLen at hm
  clear h
  by_cases h16 : (16 : Int) < n
  · have hl16 : Hid (16 < l.length) := by show _ < _; have := HS.out.len; omega
    go_enter Try.func18, Try.ntmps18
    go_wp2
    go_ret2
    exact ⟨by have := hl16.out; simp [CheckRet, checkE, checkP, this], Below.refl _ _⟩
  · have hl16 : Hid (¬ 16 < l.length) := by show ¬ _; have := HS.out.len; omega
    go_enter Try.func18, Try.ntmps18
    go_wp2
    go_loopw [4, 5] (fun i _ w' => ∃ k : Nat, k ≤ n ∧ i = .int .i64 k ∧ Below w.heap.size w w' ∧ ∀ j, j < k → errAt l j = 0) (fun i _ _ => n - (intOf i).toNat)
    case atStart => exact ⟨0, Nat.zero_le _, rfl, Below.refl _ _, fun j h => absurd h (by omega)⟩
    case round =>
      obtain ⟨k, hk, rfl, hb, hno⟩ := hrel
      have HN : Hid (∀ j, j < k → errAt l j = 0) := hno
      have HB : Hid (Below w.heap.size w wr) := hb
      clear hno hb
      by_cases hlt : k < n
      · have hlk : k < l.length := by have := HS.out.len; omega
        have HC : Hid (∀ W, SigAt W a n l → Calls Try.prog 23 #[.slice a n cap, .int .i64 k] W fun e w' => e = .returned (.int .i64 (errAt l k)) ∧ Below W.heap.size W w') := by
          intro W hW
          have := rsymbol_any a n cap l k hlk W hW
          rw [show symErr (l.take k) l[k] = errAt l k by unfold errAt; rw [dif_pos hlk]] at this
          exact this
        cases he : (errAt l k != 0)
        · have he' : Hid (errAt l k = 0) := by show _ = _; simpa using he
          go_wp2_with fail
          refine (HC.out _ (HS.out.below HB.out)).mono ?_
          rintro e w2 ⟨rfl, hb2⟩
          have HB2 : Hid (Below w.heap.size w w2) := HB.out.trans (hb2.mono HB.out.size)
          clear hb2
          go_wp2
          go_roundw
          case rel => exact ⟨k + 1, by omega, by go_num, HB2.out, fun j hj => by
            rcases Nat.lt_succ_iff_lt_or_eq.1 hj with hj | rfl
            · exact HN.out j hj
            · exact he'.out⟩
          case measure => simp [intOf]; omega
        · have hf : Hid (firstErr l = some k) := firstErr_hit hlk (by simpa using he) HN.out
          go_wp2_with fail
          refine (HC.out _ (HS.out.below HB.out)).mono ?_
          rintro e w2 ⟨rfl, hb2⟩
          have HB2 : Hid (Below w.heap.size w w2) := HB.out.trans (hb2.mono HB.out.size)
          clear hb2
          go_wp2
          go_ret2
          exact ⟨by unfold CheckRet; rw [checkE_hit hl16.out hf.out, checkP_hit hl16.out hf.out]; rfl, HB2.out⟩
      · have hf : Hid (firstErr l = none) := firstErr_miss fun j hj => HN.out j (by have := HS.out.len; omega)
        go_wp2
        go_ret2
        exact ⟨by unfold CheckRet; rw [checkE_miss hl16.out hf.out, checkP_miss hl16.out hf.out]; rfl, HB.out⟩

end Go.Proofs.Ytokbgbbkopmngab
/- What the document's Same, Is, Equal and Right answer. -/
namespace Go.Proofs.Ytokbgbbkopmngab
open Go.RowKit Go.Deep

set_option maxRecDepth 100000 in
set_option maxHeartbeats 2000000 in
theorem sright_any (S : Option Addr) (n cap : Nat) (l : List Sym) (w : World) (hS : SigAt w S n l) :
    Calls Try.prog 12 #[.slice S n cap] w fun e w' => e = .returned (.bool (checkE l == 0)) ∧ Below w.heap.size w w' := by
  have HC : Hid (Calls Try.prog 18 #[.slice S n cap] w fun e w' => CheckRet l e ∧ Below w.heap.size w w') := rcheck_any S n cap l w hS
  clear hS
  go_enter Try.func12, Try.ntmps12
  go_wp2_with (go_at_call 18; refine HC.out.mono ?_; rintro e w1 ⟨he, hb1⟩; unfold CheckRet at he; subst he; have HB1 : Hid (Below w.heap.size w w1) := hb1; clear hb1)
  go_ret
  exact ⟨rfl, HB1.out⟩
def rightB (l : List Sym) (t : Tn) : Bool := (checkE l == 0) && (errT l t.1 t.2 == 0)
set_option maxRecDepth 100000 in
set_option maxHeartbeats 2000000 in
theorem rright_any (S : Option Addr) (n cap : Nat) (l : List Sym) (t : Tn) (a : Option Addr) (c : Nat) (w : World) (hS : SigAt w S n l) (hT : TmAt w t.1 a c t.2) :
    Calls Try.prog 5 #[.slice S n cap, .agg #[.string t.1.1, .int .i64 t.1.2, .slice a (lenF t.2) c]] w fun e w' => e = .returned (.bool (rightB l t)) ∧ Below w.heap.size w w' := by
  obtain ⟨⟨tn, ts⟩, tl⟩ := t
  obtain ⟨ev, hev⟩ : ∃ ev, errT l (tn, ts) tl = ev := ⟨_, rfl⟩
  have ON : Hid (TBox (w.alloc (.cells #[.string tn, .int .i64 ts, .slice a (lenF tl) c] 26)) w.heap.size (tn, ts) a (lenF tl) c) := TBox.new w (tn, ts) a (lenF tl) c
  have HB0 : Hid (Below w.heap.size w (w.alloc (.cells #[.string tn, .int .i64 ts, .slice a (lenF tl) c] 26))) := (Below.refl _ w).alloc (Nat.le_refl _) _
  have HS : Hid (∀ W, Below w.heap.size w W → Calls Try.prog 12 #[.slice S n cap] W fun e w' => e = .returned (.bool (checkE l == 0)) ∧ Below W.heap.size W w') := fun W hW => sright_any S n cap l W (hS.below hW)
  have HN : Hid (∀ W, Below w.heap.size w W → Calls Try.prog 13 #[.slice S n cap, .agg #[.string tn, .int .i64 ts, .slice a (lenF tl) c]] W fun e w' => e = .returned (.int .i64 ev) ∧ Below W.heap.size W w') := fun W hW => by
    have := nodes_all l _ S n cap (tn, ts) tl a c W (Nat.le_refl _) (hS.below hW) (hT.below hW)
    rw [hev] at this
    exact this
  clear hS hT
  cases hc : (checkE l == 0)
  · have e : Hid (rightB l ((tn, ts), tl) = false) := by show _ = _; unfold rightB; rw [hc]; rfl
    rw [hc] at HS
    go_enter Try.func5, Try.ntmps5
    go_wp2_with (go_at_call 12; refine (HS.out _ HB0.out).mono ?_; rintro e w1 ⟨rfl, hb1⟩; have HB1 : Hid (Below w.heap.size w w1) := HB0.out.trans (hb1.mono HB0.out.size); have hbx := ON.out.below hb1; have c0 := hbx.c0; have c1 := hbx.c1; have c2 := hbx.c2; clear hb1 hbx)
    go_ret
    exact ⟨by rw [e.out]; rfl, HB1.out⟩
  · have e : Hid (rightB l ((tn, ts), tl) = (ev == 0)) := by show _ = _; unfold rightB; rw [hc, ← hev]; rfl
    rw [hc] at HS
    clear hev
    go_enter Try.func5, Try.ntmps5
    go_wp2_with (first
      | (go_at_call 12; refine (HS.out _ HB0.out).mono ?_; rintro e w1 ⟨rfl, hb1⟩; have HB1 : Hid (Below w.heap.size w w1) := HB0.out.trans (hb1.mono HB0.out.size); have hbx := ON.out.below hb1; have c0 := hbx.c0; have c1 := hbx.c1; have c2 := hbx.c2; clear hb1 hbx)
      | (go_at_call 13; refine (HN.out _ HB1.out).mono ?_; rintro e w2 ⟨rfl, hb2⟩; have HB2 : Hid (Below w.heap.size w w2) := HB1.out.trans (hb2.mono HB1.out.size); clear hb2))
    go_ret
    exact ⟨by rw [e.out]; rfl, HB2.out⟩
set_option maxRecDepth 100000 in
theorem right_facts {l : List Sym} {t : Tn} (h : rightB l t = true) : (sgOf l).Ok (arAt l) ∧ RightT (sgOf l) (arAt l) t := by
  unfold rightB at h
  simp only [Bool.and_eq_true, beq_iff_eq] at h
  exact ⟨sg_ok h.1, errT_right h.1 h.2⟩
end Go.Proofs.Ytokbgbbkopmngab
