import Derived.Test.YtgcnjpiiofjljaaGreatDoorLeaf
import Derived.Test.YtgcnjpiiofjljaaGreatDoorChkPlain
import Derived.Test.YtgcnjpiiofjljaaGreatDoorLater
import Derived.Test.YtgcnjpiiofjljaaGreatDoorTCmp
import Derived.BigQuiet
import Derived.Shelf.SlSortCmp.WholeK
import Derived.Test.YtgcnjpiiofjljaaGreatDoorProg
import Derived.Test.YtgcnjpiiofjljaaGreatDoorPKind
import Derived.Shelf.SlSortCmp.NoneTotal
import Derived.Test.YtgcnjpiiofjljaaGreatDoorKTClone
/- What the document's Exact answers of any two terms. -/
namespace Go.Proofs.YtgcnjpiiofjljaaGreatDoor
open Go.RowKit Go.Deep

/-- Alike in every field. -/
def exF : Fo → Fo → Bool
  | .nil, _ => true
  | .node _ _ _ _ _, .nil => true
  | .node _ _ x l r, .node _ _ y m s => ((x.1.toList == y.1.toList) && (x.2 == y.2) && (lenF l == lenF m) && exF l m) && exF r s
def exN (x y : ByteArray × Int) (l m : Fo) : Bool := (x.1.toList == y.1.toList) && (x.2 == y.2) && (lenF l == lenF m) && exF l m
def RExactOk (k : Nat) : Prop := ∀ (x y : ByteArray × Int) (l m : Fo) (a b : Option Addr) (c d : Nat) (w : World), nodesF l ≤ k → TmAt w x a c l → TmAt w y b d m →
  Calls Tryz.prog 67 #[.agg #[.string x.1, .int .i64 x.2, .slice a (lenF l) c], .agg #[.string y.1, .int .i64 y.2, .slice b (lenF m) d]] w fun e w' => e = .returned (.bool (exN x y l m)) ∧ Below w.heap.size w w'

set_option maxRecDepth 100000 in
set_option maxHeartbeats 2000000 in
theorem rexact_all : ∀ k, RExactOk k := by
  intro k
  induction k using Nat.strongRecOn with
  | _ k ih =>
    intro x y l m a b c d w hk hS hT
    have HS : Hid (TmAt w x a c l) := hS
    have HT : Hid (TmAt w y b d m) := hT
    have IH : Hid (∀ j, j < k → RExactOk j) := ih
    have PA : Hid (Pair w x a (lenF l) c y b (lenF m) d ((w.alloc (.cells #[.string x.1, .int .i64 x.2, .slice a (lenF l) c] 27)).alloc (.cells #[.string y.1, .int .i64 y.2, .slice b (lenF m) d] 27))) := Pair.new _ _ _ _ _ _ _ _ _
    have hn : lenF l ≤ 9223372036854775807 := by have := hS.sizes.len; have := hS.sizes.cap; unfold maxLen at *; omega
    have hn2 : lenF m ≤ 9223372036854775807 := by have := hT.sizes.len; have := hT.sizes.cap; unfold maxLen at *; omega
    clear hS hT ih
    obtain ⟨xn, xs⟩ := x
    obtain ⟨yn, ys⟩ := y
    cases h1 : (xn.toList == yn.toList)
    · have e : Hid (exN (xn, xs) (yn, ys) l m = false) := by show _ = _; unfold exN; rw [h1]; rfl
      have hd : ¬ (xn.toList = yn.toList) := by simpa using h1
      go_enter Tryz.func67, Tryz.ntmps67
      go_wp2
      go_ret
      exact ⟨by rw [e.out]; rfl, PA.out.low⟩
    · cases h2 : (xs == ys)
      · have e : Hid (exN (xn, xs) (yn, ys) l m = false) := by show _ = _; unfold exN; rw [h1, h2]; rfl
        have h2' : (xs != ys) = true := by simpa using h2
        go_enter Tryz.func67, Tryz.ntmps67
        go_wp2
        go_ret
        exact ⟨by rw [e.out]; rfl, PA.out.low⟩
      · obtain rfl : xs = ys := by simpa using h2
        cases h3 : (lenF l == lenF m)
        · have e : Hid (exN (xn, xs) (yn, xs) l m = false) := by show _ = _; unfold exN; rw [h3]; simp
          have h3' : ((lenF l : Int) != (lenF m : Int)) = true := by simp at h3 ⊢; omega
          clear h2 h3
          go_enter Tryz.func67, Tryz.ntmps67
          go_wp2
          go_ret
          exact ⟨by rw [e.out]; rfl, PA.out.low⟩
        · have e : Hid (exN (xn, xs) (yn, xs) l m = exF l m) := by show _ = _; unfold exN; rw [h1, h2, h3]; rfl
          have h3' : lenF m = lenF l := by simp at h3; omega
          have HLen : Hid (lenF m = lenF l) := h3'
          rw [h3'] at PA
          dsimp only
          rw [h3']
          clear h2 h3 h3' hn2
          go_enter Tryz.func67, Tryz.ntmps67
          go_wp2
          go_loopw [5, 6] (fun i _ wr => ∃ j : Nat, j ≤ lenF l ∧ i = .int .i64 j ∧ Pair w (xn, xs) a (lenF l) c (yn, xs) b (lenF l) d wr ∧ exF (dropF j l) (dropF j m) = exF l m) (fun i _ _ => lenF l - (intOf i).toNat)
          case atStart => exact ⟨0, Nat.zero_le _, rfl, PA.out, by rw [drop_zero, drop_zero]⟩
          case round =>
            obtain ⟨j, hj, rfl, hP, hex⟩ := hrel
            have HX : Hid (exF (dropF j l) (dropF j m) = exF l m) := hex
            clear hex
            have t2 := hP.l.c2
            by_cases hlt : j < lenF l
            · obtain ⟨b1, o1, rfl, hk1⟩ := HS.out.args.get (by omega)
              obtain ⟨bb, oo, rfl, hkk⟩ := HT.out.args.get (by have := HLen.out; omega)
              obtain ⟨z, a1, c1, l1, kd⟩ := hk1.kid (k := j) hlt
              obtain ⟨z', a2, c2, l2, kd2⟩ := hkk.kid (k := j) (by have := HLen.out; omega)
              have kd' := kd.below hP.low
              have kd2' := kd2.below hP.low
              have HP : Hid (Pair w (xn, xs) (some ⟨b1, o1, none⟩) (lenF l) c (yn, xs) (some ⟨bb, oo, none⟩) (lenF l) d wr) := hP
              have HX2 : Hid (exF l m = (exN z z' l1 l2 && exF (dropF (j + 1) l) (dropF (j + 1) m))) := by
                obtain ⟨B1, O1, s1⟩ := kd.split
                obtain ⟨B2, O2, s2⟩ := kd2.split
                show _ = _
                rw [← HX.out, s1, s2]
                rfl
              obtain ⟨ev, hev⟩ : ∃ ev, exN z z' l1 l2 = ev := ⟨_, rfl⟩
              have hC : Hid (∀ w', Below wr.heap.size wr w' → Calls Tryz.prog 67 #[.agg #[.string z.1, .int .i64 z.2, .slice a1 (lenF l1) c1], .agg #[.string z'.1, .int .i64 z'.2, .slice a2 (lenF l2) c2]] w' fun e w'' => e = .returned (.bool ev) ∧ Below w'.heap.size w' w'') := fun w' hb => by
                have := IH.out (nodesF l1) (by have := kd.less; omega) z z' l1 l2 a1 a2 c1 c2 w' (Nat.le_refl _) (kd'.at_.below hb) (kd2'.at_.below hb)
                rw [hev] at this
                exact this
              rw [hev] at HX2
              have hne := later_some wr
              have d0 := later_cell hP.l.c2
              have d1 := later_cell hP.r.c2
              have p0 := later_cell kd'.name; have p1 := later_cell kd'.sym; have p2 := later_cell kd'.list
              have q0 := later_cell kd2'.name; have q1 := later_cell kd2'.sym; have q2 := later_cell kd2'.list
              have hk0 : (0 : Int) ≤ (j : Int) := by omega
              have hkn : (j : Int) < (lenF l : Int) := by omega
              clear kd kd2 kd' kd2' hk1 hkk hP hev
              go_wp2_with fail
              refine wp_region_later (by kernel_rfl) (by kernel_rfl) ?_
              repeat (go_big_quiet_step ((refine calls_later (hC.out _ ?_); exact Later.below _)))
              refine wpQuiet_nil ?_
              intro _ hw'
              obtain ⟨b2, hw''⟩ := hw'
              subst hw''
              have HP2 : Hid (Pair w (xn, xs) (some ⟨b1, o1, none⟩) (lenF l) c (yn, xs) (some ⟨bb, oo, none⟩) (lenF l) d b2.now) := HP.out.below b2.below
              clear d0 d1 p0 p1 p2 q0 q1 q2 t2
              cases ev with
              | true =>
                go_wp2
                go_roundw
                case rel => exact ⟨j + 1, by omega, by go_num, HP2.out, by rw [HX2.out]; simp⟩
                case measure => simp [intOf]; omega
              | false =>
                go_wp2
                go_ret
                exact ⟨by rw [e.out, HX2.out]; rfl, HP2.out.low⟩
            · obtain rfl : j = lenF l := by omega
              have hX3 : Hid (exF l m = true) := by show _ = _; rw [← HX.out, drop_end]; rfl
              go_wp2
              go_ret
              exact ⟨by rw [e.out, hX3.out]; rfl, hP.low⟩
set_option maxRecDepth 100000 in
theorem rexact_any (x y : Tn) (a b : Option Addr) (c d : Nat) (w : World) (hS : TmAt w x.1 a c x.2) (hT : TmAt w y.1 b d y.2) :
    Calls Tryz.prog 67 #[.agg #[.string x.1.1, .int .i64 x.1.2, .slice a (lenF x.2) c], .agg #[.string y.1.1, .int .i64 y.1.2, .slice b (lenF y.2) d]] w fun e w' => e = .returned (.bool (exN x.1 y.1 x.2 y.2)) ∧ Below w.heap.size w w' :=
  rexact_all _ x.1 y.1 x.2 y.2 a b c d w (Nat.le_refl _) hS hT
end Go.Proofs.YtgcnjpiiofjljaaGreatDoor
/- What Name and Var of package sig, and the document's, answer of any text. -/
namespace Go.Proofs.YtgcnjpiiofjljaaGreatDoor
open Go.RowKit

set_option maxHeartbeats 400000 in
theorem rname_any (s : ByteArray) (w : World) (hs : s.size ≤ maxLen) : Calls Tryz.prog 61 #[.string s] w fun e w' => e = .returned (.bool (nameB s)) ∧ w' = w := by
  unfold maxLen at hs
  by_cases h0 : (s.size : Int) < 1
  · go_enter Tryz.func61, Tryz.ntmps61
    go_wp2
    go_ret
    exact ⟨by simp [nameB, fitsB]; omega, rfl⟩
  · by_cases h1 : 12 < (s.size : Int)
    · go_enter Tryz.func61, Tryz.ntmps61
      go_wp2
      go_ret
      exact ⟨by simp [nameB, fitsB]; omega, rfl⟩
    · have hp : 0 < s.size := by omega
      have hfit : Hid (fitsB s = true) := by show fitsB s = true; simp [fitsB]; omega
      cases hl : lowZ ((s[0]'hp).toNat : Int)
      · have hbad : Hid (nameB s = false) := by
          show nameB s = false
          unfold nameB
          rw [hfit.out, allB_false hp (by rw [bt_of hp]; simp [okName, hl])]; rfl
        go_enter Tryz.func61, Tryz.ntmps61
        go_wp2_with (go_at_call 64; refine (rlow_any _ _).mono ?_; rintro e w' ⟨rfl, rfl⟩)
        go_ret
        exact ⟨by rw [hbad.out]; rfl, rfl⟩
      · have h01 : Hid (allB okName s 1 = true) := by
          show allB okName s 1 = true
          rw [allB_succ, allB_zero, bt_of hp]; simp [okName, hl]
        go_enter Tryz.func61, Tryz.ntmps61
        go_wp2_with (go_at_call 64; refine (rlow_any _ _).mono ?_; rintro e w' ⟨rfl, rfl⟩)
        go_loop [3] (fun i => ∃ k : Nat, 1 ≤ k ∧ k ≤ s.size ∧ i = .int .i64 k ∧ allB okName s k = true) (fun i => s.size - (intOf i).toNat)
        case atStart => exact ⟨1, Nat.le_refl _, hp, rfl, h01.out⟩
        case round =>
          obtain ⟨k, hk1, hk, rfl, hall⟩ := hrel
          have HA : Hid (allB okName s k = true) := hall
          clear hall
          by_cases hlt : k < s.size
          · have hst : Hid (∀ b, okName k ((s[k]'hlt).toNat : Int) = b → allB okName s (k + 1) = b) := by
              intro b hb; rw [allB_succ, HA.out, bt_of hlt, hb]; rfl
            have hbad : Hid (okName k ((s[k]'hlt).toNat : Int) = false → nameB s = false) := by
              intro hb; unfold nameB; rw [allB_false hlt (by rw [bt_of hlt]; exact hb)]; simp
            cases hlk : lowZ ((s[k]'hlt).toNat : Int)
            · cases hdk : digZ ((s[k]'hlt).toNat : Int)
              · go_wp2_with (first | (go_at_call 64; refine (rlow_any _ _).mono ?_; rintro e w' ⟨rfl, rfl⟩) | (go_at_call 62; refine (rdigit_any _ _).mono ?_; rintro e w' ⟨rfl, rfl⟩))
                go_ret
                exact ⟨by rw [hbad.out (by simp [okName, hlk, hdk])]; rfl, rfl⟩
              · go_wp2_with (first | (go_at_call 64; refine (rlow_any _ _).mono ?_; rintro e w' ⟨rfl, rfl⟩) | (go_at_call 62; refine (rdigit_any _ _).mono ?_; rintro e w' ⟨rfl, rfl⟩))
                go_round
                case rel => exact ⟨k + 1, by omega, by omega, by go_num, hst.out _ (by simp [okName, hdk]; omega)⟩
                case measure => simp [intOf]; omega
            · go_wp2_with (first | (go_at_call 64; refine (rlow_any _ _).mono ?_; rintro e w' ⟨rfl, rfl⟩) | (go_at_call 62; refine (rdigit_any _ _).mono ?_; rintro e w' ⟨rfl, rfl⟩))
              go_round
              case rel => exact ⟨k + 1, by omega, by omega, by go_num, hst.out _ (by simp [okName, hlk])⟩
              case measure => simp [intOf]; omega
          · have hke : s.size = k := by omega
            have hgood : Hid (nameB s = true) := by show nameB s = true; unfold nameB; rw [hfit.out, hke, HA.out]; rfl
            clear hke
            go_wp2
            go_ret
            exact ⟨by rw [hgood.out]; rfl, rfl⟩

end Go.Proofs.YtgcnjpiiofjljaaGreatDoor
/- What the document's symbol and Check answer. -/
namespace Go.Proofs.YtgcnjpiiofjljaaGreatDoor
open Go.RowKit

theorem box_facts {w w1 : World} {x : Sym} (hb : Below (w.heap.size + 1) (w.alloc (.cells #[.string x.name, .int .i64 x.kind, .int .i64 x.arity, .string x.unit] 73)) w1) :
    w1.cell? ⟨w.heap.size, 0, none⟩ = some (.string x.name) ∧ w1.cell? ⟨w.heap.size, 1, none⟩ = some (.int .i64 x.kind) ∧ w1.cell? ⟨w.heap.size, 2, none⟩ = some (.int .i64 x.arity) ∧ w1.cell? ⟨w.heap.size, 3, none⟩ = some (.string x.unit) ∧ w.heap.size < w1.heap.size ∧ Below w.heap.size w w1 := by
  refine ⟨?_, ?_, ?_, ?_, ?_, ?_⟩
  · rw [hb.cell (p := ⟨w.heap.size, 0, none⟩) (by simp)]; simp [go_sem]
  · rw [hb.cell (p := ⟨w.heap.size, 1, none⟩) (by simp)]; simp [go_sem]
  · rw [hb.cell (p := ⟨w.heap.size, 2, none⟩) (by simp)]; simp [go_sem]
  · rw [hb.cell (p := ⟨w.heap.size, 3, none⟩) (by simp)]; simp [go_sem]
  · have := hb.size; simp at this; omega
  · exact ((Below.refl _ _).alloc (Nat.le_refl _) _).trans (hb.mono (by omega))
def freshB (l : List Sym) (nm : ByteArray) : Bool := l.all fun y => !sameB y.name nm
theorem fresh_find (l : List Sym) (nm : ByteArray) : findB l nm = !freshB l nm := by
  unfold findB findL freshB
  rw [List.findIdx?_isSome]
  induction l with
  | nil => rfl
  | cons y l ih => simp only [List.any_cons, List.all_cons, ih]; cases sameB y.name nm <;> simp
theorem fresh_succ {l : List Sym} {k : Nat} (hk : k < l.length) (nm : ByteArray) : freshB (l.take (k + 1)) nm = (freshB (l.take k) nm && !sameB l[k].name nm) := by
  unfold freshB
  rw [List.take_succ_eq_append_getElem hk, List.all_append]
  simp
def okB (l : List Sym) (x : Sym) (k : Nat) : Bool := nameB x.name && freshB (l.take k) x.name
theorem okB_zero (l : List Sym) (x : Sym) : okB l x 0 = nameB x.name := by simp [okB, freshB]
theorem okB_succ {l : List Sym} {k : Nat} (hk : k < l.length) (x : Sym) : okB l x (k + 1) = (okB l x k && !sameB l[k].name x.name) := by
  unfold okB; rw [fresh_succ hk, Bool.and_assoc]
theorem okB_err {l : List Sym} {x : Sym} {k : Nat} (h : okB l x k = false) : symErr (l.take k) x = 11 := by
  unfold symErr
  rw [if_pos]
  unfold okB at h
  rw [fresh_find]
  cases h1 : nameB x.name
  · exact Or.inr rfl
  · rw [h1] at h; simp at h; left; simp [h]
theorem okB_ok {l : List Sym} {x : Sym} {k : Nat} (h : okB l x k = true) : ¬ (findB (l.take k) x.name = true ∨ nameB x.name = false) := by
  unfold okB at h
  rw [fresh_find]
  simp at h
  simp [h.1, h.2]
theorem err12 {l : List Sym} {x : Sym} (h : ¬ (findB l x.name = true ∨ nameB x.name = false)) (hk : kindB x = false) : symErr l x = 12 := by
  unfold symErr; rw [if_neg h, if_pos hk]
theorem err13 {l : List Sym} {x : Sym} (h : ¬ (findB l x.name = true ∨ nameB x.name = false)) (hk : kindB x = true) (ha : arityB x = false) : symErr l x = 13 := by
  unfold symErr; rw [if_neg h, if_neg (by simp [hk]), if_pos ha]
theorem err14 {l : List Sym} {x : Sym} (h : ¬ (findB l x.name = true ∨ nameB x.name = false)) (hk : kindB x = true) (ha : arityB x = true) : symErr l x = if unitB l x = false then 14 else 0 := by
  unfold symErr; rw [if_neg h, if_neg (by simp [hk]), if_neg (by simp [ha])]

set_option maxHeartbeats 1000000 in
theorem rsymbol_any (a : Option Addr) (n cap : Nat) (l : List Sym) (i : Nat) (hi : i < l.length) (w : World) (h : SigAt w a n l) :
    Calls Tryz.prog 42 #[.slice a n cap, .int .i64 i] w fun e w' => e = .returned (.int .i64 (symErr (l.take i) l[i])) ∧ Below w.heap.size w w' := by
  have HS : Hid (SigAt w a n l) := h
  have hm := h.small
  have hin : (i : Int) < n := by have := h.len; omega
  have hi0 : (0 : Int) ≤ i := by omega
  unfold maxLen at hm
  clear h
  obtain ⟨b, off, rfl, hsym⟩ := HS.out.cells i hi
  have hfx : Hid (l[i].Fits) := HS.out.fits _ (List.getElem_mem hi)
  have c0 := hsym.name
  have c1 := hsym.kind
  have c2 := hsym.arity
  have c3 := hsym.unit
  clear hsym
  go_enter Tryz.func42, Tryz.ntmps42
  go_wp2_with (go_at_call 61; refine (rname_any _ _ hfx.out.name).mono ?_; rintro e w1 hh; obtain ⟨rfl, hw⟩ := hh; rw [hw]; clear hw w1)
  clear c0 c1 c2 c3
  generalize hx : l[i] = x at *
  have HX : Hid (l[i] = x) := hx
  clear hx
  go_loopw [6, 7] (fun ok k w' => ∃ j : Nat, j ≤ i ∧ k = .int .i64 j ∧ ok = .bool (okB l x j) ∧ Below (w.heap.size + 1) (w.alloc (.cells #[.string x.name, .int .i64 x.kind, .int .i64 x.arity, .string x.unit] 73)) w') (fun _ k _ => i - (intOf k).toNat)
  case atStart => exact ⟨0, Nat.zero_le _, rfl, by rw [okB_zero], (Below.refl _ _)⟩
  case round =>
    obtain ⟨j, hj, rfl, rfl, hb⟩ := hrel
    have HB : Hid (Below (w.heap.size + 1) (w.alloc (.cells #[.string x.name, .int .i64 x.kind, .int .i64 x.arity, .string x.unit] 73)) wr) := hb
    obtain ⟨x0, x1, x2, x3, hz, hbw⟩ := box_facts hb
    have HW : Hid (Below w.heap.size w wr) := hbw
    by_cases hlt : (j : Int) < i
    · have hlj : j < l.length := by omega
      obtain ⟨b', off', hbo, hsj⟩ := HS.out.cells j hlj
      simp only [Option.some.injEq, Addr.mk.injEq, and_true] at hbo
      obtain ⟨rfl, rfl⟩ := hbo
      have s0 := (hsj.below hbw).name
      clear hsj hb hbw
      have hj0 : (0 : Int) ≤ (j : Int) := by omega
      have hjn : (j : Int) < (n : Int) := by omega
      have hne := later_some wr
      have d0 := later_cell s0
      have d1 := later_cell x0
      have hok := okB_succ hlj x
      have HO : Hid (okB l x (j + 1) = (okB l x j && !sameB l[j].name x.name)) := hok
      clear hok
      cases ho : okB l x j
      · go_wp2
        refine wp_region_later (by kernel_rfl) (by kernel_rfl) ?_
        repeat (go_big_quiet_step (fail))
        refine wpQuiet_nil ?_
        intro _ hw'
        obtain ⟨b2, hw''⟩ := hw'
        subst hw''
        clear d0 d1 x0 x1 x2 x3 s0
        go_wp2
        go_roundw
        case rel => exact ⟨j + 1, by omega, by go_num, by rw [HO.out, ho]; rfl, HB.out.trans (b2.below.mono (by omega))⟩
        case measure => simp [intOf]; omega
      · go_wp2
        refine wp_region_later (by kernel_rfl) (by kernel_rfl) ?_
        repeat (go_big_quiet_step (fail))
        refine wpQuiet_nil ?_
        intro _ hw'
        obtain ⟨b2, hw''⟩ := hw'
        subst hw''
        clear d0 d1 x0 x1 x2 x3 s0
        go_wp2
        go_roundw
        case rel => exact ⟨j + 1, by omega, by go_num, by rw [HO.out, ho]; rfl, HB.out.trans (b2.below.mono (by omega))⟩
        case measure => simp [intOf]; omega
    · have hji : Hid (j = i) := by show j = i; omega
      clear hb hbw
      cases ho : okB l x j
      · have hf : Hid (symErr (l.take i) x = 11) := okB_err (by rw [← hji.out]; exact ho)
        go_wp2
        go_ret
        exact ⟨by rw [HX.out, hf.out]; rfl, HW.out⟩
      · have hgood : Hid (¬ (findB (l.take i) x.name = true ∨ nameB x.name = false)) := okB_ok (by rw [← hji.out]; exact ho)
        by_cases k1 : x.kind = 1
        · have K1 : Hid (x.kind = 1) := k1
          have e1 : (x.kind != 1) = false := by simp [k1]
          have e2 : (x.kind == 1) = true := by simp [k1]
          have e3 : (x.kind != 3) = true := by simp [k1]
          have hkb : Hid (kindB x = true) := by show _ = _; simp [kindB, k1]
          have hkn3 : Hid (x.kind ≠ 3) := by show _ ≠ _; omega
          clear k1
          by_cases r0 : x.arity < 0
          · have hf : Hid (symErr (l.take i) x = 13) := err13 hgood.out hkb.out (by simp [arityB, K1.out]; omega)
            go_wp2
            go_ret
            exact ⟨by rw [HX.out, hf.out]; rfl, HW.out⟩
          · by_cases r4 : 4 < x.arity
            · have hf : Hid (symErr (l.take i) x = 13) := err13 hgood.out hkb.out (by simp [arityB, K1.out]; omega)
              go_wp2
              go_ret
              exact ⟨by rw [HX.out, hf.out]; rfl, HW.out⟩
            · have har : Hid (arityB x = true) := by show _ = _; simp [arityB, K1.out]; omega
              cases hu : x.unit.toList.isEmpty
              · have hf : Hid (symErr (l.take i) x = 14) := by
                  show _ = _
                  rw [err14 hgood.out hkb.out har.out, if_pos (by simp [unitB, hkn3.out, emptyB, hu])]
                go_wp2
                go_ret
                exact ⟨by rw [HX.out, hf.out]; rfl, HW.out⟩
              · have hf : Hid (symErr (l.take i) x = 0) := by
                  show _ = _
                  rw [err14 hgood.out hkb.out har.out, if_neg (by simp [unitB, hkn3.out, emptyB, hu])]
                go_wp2
                go_ret
                exact ⟨by rw [HX.out, hf.out]; rfl, HW.out⟩
        · have e1 : (x.kind != 1) = true := by simp [k1]
          have e2 : (x.kind == 1) = false := by simp [k1]
          by_cases k2 : x.kind = 2
          · have e4 : (x.kind != 2) = false := by simp [k2]
            have e3 : (x.kind != 3) = true := by simp [k2]
            have hkb : Hid (kindB x = true) := by show _ = _; simp [kindB, k2]
            have hkn3 : Hid (x.kind ≠ 3) := by show _ ≠ _; omega
            have hkn1 : Hid (x.kind ≠ 1) := k1
            clear k1 k2
            cases r2 : (x.arity != 2)
            · have har : Hid (arityB x = true) := by show _ = _; simp [arityB, hkn1.out]; simpa using r2
              cases hu : x.unit.toList.isEmpty
              · have hf : Hid (symErr (l.take i) x = 14) := by
                  show _ = _
                  rw [err14 hgood.out hkb.out har.out, if_pos (by simp [unitB, hkn3.out, emptyB, hu])]
                go_wp2
                go_ret
                exact ⟨by rw [HX.out, hf.out]; rfl, HW.out⟩
              · have hf : Hid (symErr (l.take i) x = 0) := by
                  show _ = _
                  rw [err14 hgood.out hkb.out har.out, if_neg (by simp [unitB, hkn3.out, emptyB, hu])]
                go_wp2
                go_ret
                exact ⟨by rw [HX.out, hf.out]; rfl, HW.out⟩
            · have hf : Hid (symErr (l.take i) x = 13) := err13 hgood.out hkb.out (by simp [arityB, hkn1.out]; simpa using r2)
              go_wp2
              go_ret
              exact ⟨by rw [HX.out, hf.out]; rfl, HW.out⟩
          · have e4 : (x.kind != 2) = true := by simp [k2]
            by_cases k3 : x.kind = 3
            · have e3 : (x.kind != 3) = false := by simp [k3]
              have hkb : Hid (kindB x = true) := by show _ = _; simp [kindB, k3]
              have hkn1 : Hid (x.kind ≠ 1) := k1
              have K3 : Hid (x.kind = 3) := k3
              clear k1 k2 k3
              cases r2 : (x.arity != 2)
              · have har : Hid (arityB x = true) := by show _ = _; simp [arityB, hkn1.out]; simpa using r2
                go_wp2
                have HB0 : Hid (Below (w.heap.size + 1) (w.alloc (.cells #[.string x.name, .int .i64 x.kind, .int .i64 x.arity, .string x.unit] 73)) wr) := HB.out
                clear x0 x1 x2 x3 hz ho hlt
                go_loopw [8] (fun k w' => ∃ j : Nat, j ≤ i ∧ k = .int .i64 j ∧ (∀ m (hm : m < l.length), m < j → isUnit x l[m] = false) ∧ Below (w.heap.size + 1) (w.alloc (.cells #[.string x.name, .int .i64 x.kind, .int .i64 x.arity, .string x.unit] 73)) w') (fun k _ => i - (intOf k).toNat)
                case atStart => exact ⟨0, Nat.zero_le _, rfl, fun m _ h => absurd h (by omega), HB0.out⟩
                case round =>
                  rename_i wq
                  obtain ⟨j2, hj2, rfl, hno, hb⟩ := hrel
                  have HN : Hid (∀ m (hm : m < l.length), m < j2 → isUnit x l[m] = false) := hno
                  have HB2 : Hid (Below (w.heap.size + 1) (w.alloc (.cells #[.string x.name, .int .i64 x.kind, .int .i64 x.arity, .string x.unit] 73)) wr) := hb
                  obtain ⟨x0, x1, x2, x3, hz, hbw⟩ := box_facts hb
                  have HW2 : Hid (Below w.heap.size w wr) := hbw
                  clear hno
                  by_cases hlt2 : (j2 : Int) < i
                  · have hlj : j2 < l.length := by omega
                    obtain ⟨b', off', hbo, hsj⟩ := HS.out.cells j2 hlj
                    simp only [Option.some.injEq, Addr.mk.injEq, and_true] at hbo
                    obtain ⟨rfl, rfl⟩ := hbo
                    have s0 := (hsj.below hbw).name
                    have s1 := (hsj.below hbw).kind
                    have s2 := (hsj.below hbw).arity
                    clear hsj hb hbw
                    have hj0 : (0 : Int) ≤ (j2 : Int) := by omega
                    have hjn : (j2 : Int) < (n : Int) := by omega
                    have hne := later_some wr
                    have d0 := later_cell s0
                    have d1 := later_cell s1
                    have d2 := later_cell s2
                    have d3 := later_cell x3
                    cases t1 : (l[j2].kind == 1)
                    · have hu : Hid (isUnit x l[j2] = false) := by show _ = _; simp at t1; simp [isUnit, t1]
                      go_wp2
                      refine wp_region_later (by kernel_rfl) (by kernel_rfl) ?_
                      repeat (go_big_quiet_step (fail))
                      refine wpQuiet_nil ?_
                      intro _ hw'
                      obtain ⟨b2, hw''⟩ := hw'
                      subst hw''
                      clear d0 d1 d2 d3 x0 x1 x2 x3 s0 s1 s2
                      go_wp2
                      go_roundw
                      case rel => exact ⟨j2 + 1, by omega, by go_num, fun m hm h => by
                        rcases Nat.lt_succ_iff_lt_or_eq.1 h with h | rfl
                        · exact HN.out m hm h
                        · exact hu.out, HB2.out.trans (b2.below.mono (by omega))⟩
                      case measure => simp [intOf]; omega
                    · cases t2 : (l[j2].arity == 0)
                      · have hu : Hid (isUnit x l[j2] = false) := by show _ = _; simp at t2; simp [isUnit, t2]
                        go_wp2
                        refine wp_region_later (by kernel_rfl) (by kernel_rfl) ?_
                        repeat (go_big_quiet_step (fail))
                        refine wpQuiet_nil ?_
                        intro _ hw'
                        obtain ⟨b2, hw''⟩ := hw'
                        subst hw''
                        clear d0 d1 d2 d3 x0 x1 x2 x3 s0 s1 s2
                        go_wp2
                        go_roundw
                        case rel => exact ⟨j2 + 1, by omega, by go_num, fun m hm h => by
                          rcases Nat.lt_succ_iff_lt_or_eq.1 h with h | rfl
                          · exact HN.out m hm h
                          · exact hu.out, HB2.out.trans (b2.below.mono (by omega))⟩
                        case measure => simp [intOf]; omega
                      · cases t3 : (l[j2].name.toList == x.unit.toList)
                        · have hu : Hid (isUnit x l[j2] = false) := by show _ = _; simp [isUnit, sameB, t3]
                          go_wp2
                          refine wp_region_later (by kernel_rfl) (by kernel_rfl) ?_
                          repeat (go_big_quiet_step (fail))
                          refine wpQuiet_nil ?_
                          intro _ hw'
                          obtain ⟨b2, hw''⟩ := hw'
                          subst hw''
                          clear d0 d1 d2 d3 x0 x1 x2 x3 s0 s1 s2
                          go_wp2
                          go_roundw
                          case rel => exact ⟨j2 + 1, by omega, by go_num, fun m hm h => by
                            rcases Nat.lt_succ_iff_lt_or_eq.1 h with h | rfl
                            · exact HN.out m hm h
                            · exact hu.out, HB2.out.trans (b2.below.mono (by omega))⟩
                          case measure => simp [intOf]; omega
                        · have hu : Hid (isUnit x l[j2] = true) := by show _ = _; simp at t1 t2; simp [isUnit, sameB, t1, t2, t3]
                          have hf : Hid (symErr (l.take i) x = 0) := by
                            show _ = _
                            rw [err14 hgood.out hkb.out har.out, if_neg]
                            rw [Bool.not_eq_false]
                            unfold unitB
                            rw [if_pos K3.out, List.any_eq_true]
                            exact ⟨l[j2], by rw [List.mem_take_iff_getElem]; exact ⟨j2, by omega, rfl⟩, hu.out⟩
                          go_wp2
                          refine wp_region_later (by kernel_rfl) (by kernel_rfl) ?_
                          repeat (go_big_quiet_step (fail))
                          refine wpQuiet_nil ?_
                          intro _ hw'
                          obtain ⟨b2, hw''⟩ := hw'
                          subst hw''
                          clear d0 d1 d2 d3 x0 x1 x2 x3 s0 s1 s2
                          go_wp2
                          go_ret
                          exact ⟨by rw [HX.out, hf.out]; rfl, HW2.out.trans (b2.below.mono HW2.out.size)⟩
                  · have hf : Hid (symErr (l.take i) x = 14) := by
                      show _ = _
                      rw [err14 hgood.out hkb.out har.out, if_pos]
                      unfold unitB
                      rw [if_pos K3.out, List.any_eq_false]
                      intro y hy
                      obtain ⟨m, hm1, rfl⟩ := List.getElem_of_mem hy
                      have hm2 : m < i := by simp at hm1; omega
                      have := HN.out m (by omega) (by omega)
                      simp [this]
                    clear hb hbw
                    go_wp2
                    go_ret
                    exact ⟨by rw [HX.out, hf.out]; rfl, HW2.out⟩
              · have hf : Hid (symErr (l.take i) x = 13) := err13 hgood.out hkb.out (by simp [arityB, hkn1.out]; simpa using r2)
                go_wp2
                go_ret
                exact ⟨by rw [HX.out, hf.out]; rfl, HW.out⟩
            · have e3 : (x.kind != 3) = true := by simp [k3]
              have hf : Hid (symErr (l.take i) x = 12) := err12 hgood.out (by simp [kindB, k1, k2, k3])
              clear k1 k2 k3
              go_wp2
              go_ret
              exact ⟨by rw [HX.out, hf.out]; rfl, HW.out⟩
end Go.Proofs.YtgcnjpiiofjljaaGreatDoor
/- What the document's Check and Same answer, and what kept answers of a signature that reads as it did. -/
namespace Go.Proofs.YtgcnjpiiofjljaaGreatDoor
open Go.RowKit

def CheckRet (l : List Sym) (e : Ending) : Prop := e = .returned (.tuple #[.int .i64 (checkE l), .int .i64 (checkP l)])

set_option maxHeartbeats 400000 in
theorem rcheck_any (a : Option Addr) (n cap : Nat) (l : List Sym) (w : World) (h : SigAt w a n l) :
    Calls Tryz.prog 26 #[.slice a n cap] w fun e w' => CheckRet l e ∧ Below w.heap.size w w' := by
  have HS : Hid (SigAt w a n l) := h
  have hm := h.small
  unfold maxLen at hm
  clear h
  by_cases h16 : (16 : Int) < n
  · have hl16 : Hid (16 < l.length) := by show _ < _; have := HS.out.len; omega
    go_enter Tryz.func26, Tryz.ntmps26
    go_wp2
    go_ret2
    exact ⟨by have := hl16.out; simp [CheckRet, checkE, checkP, this], Below.refl _ _⟩
  · have hl16 : Hid (¬ 16 < l.length) := by show ¬ _; have := HS.out.len; omega
    go_enter Tryz.func26, Tryz.ntmps26
    go_wp2
    go_loopw [4, 5] (fun i _ w' => ∃ k : Nat, k ≤ n ∧ i = .int .i64 k ∧ Below w.heap.size w w' ∧ ∀ j, j < k → errAt l j = 0) (fun i _ _ => n - (intOf i).toNat)
    case atStart => exact ⟨0, Nat.zero_le _, rfl, Below.refl _ _, fun j h => absurd h (by omega)⟩
    case round =>
      obtain ⟨k, hk, rfl, hb, hno⟩ := hrel
      have HN : Hid (∀ j, j < k → errAt l j = 0) := hno
      have HB : Hid (Below w.heap.size w wr) := hb
      clear hno hb
      by_cases hlt : k < n
      · have hlk : k < l.length := by have := HS.out.len; omega
        have HC : Hid (∀ W, SigAt W a n l → Calls Tryz.prog 42 #[.slice a n cap, .int .i64 k] W fun e w' => e = .returned (.int .i64 (errAt l k)) ∧ Below W.heap.size W w') := by
          intro W hW
          have := rsymbol_any a n cap l k hlk W hW
          rw [show symErr (l.take k) l[k] = errAt l k by unfold errAt; rw [dif_pos hlk]] at this
          exact this
        cases he : (errAt l k != 0)
        · have he' : Hid (errAt l k = 0) := by show _ = _; simpa using he
          go_wp2_with fail
          refine (HC.out _ (HS.out.below HB.out)).mono ?_
          rintro e w2 ⟨rfl, hb2⟩
          have HB2 : Hid (Below w.heap.size w w2) := HB.out.trans (hb2.mono HB.out.size)
          clear hb2
          go_wp2
          go_roundw
          case rel => exact ⟨k + 1, by omega, by go_num, HB2.out, fun j hj => by
            rcases Nat.lt_succ_iff_lt_or_eq.1 hj with hj | rfl
            · exact HN.out j hj
            · exact he'.out⟩
          case measure => simp [intOf]; omega
        · have hf : Hid (firstErr l = some k) := firstErr_hit hlk (by simpa using he) HN.out
          go_wp2_with fail
          refine (HC.out _ (HS.out.below HB.out)).mono ?_
          rintro e w2 ⟨rfl, hb2⟩
          have HB2 : Hid (Below w.heap.size w w2) := HB.out.trans (hb2.mono HB.out.size)
          clear hb2
          go_wp2
          go_ret2
          exact ⟨by unfold CheckRet; rw [checkE_hit hl16.out hf.out, checkP_hit hl16.out hf.out]; rfl, HB2.out⟩
      · have hf : Hid (firstErr l = none) := firstErr_miss fun j hj => HN.out j (by have := HS.out.len; omega)
        go_wp2
        go_ret2
        exact ⟨by unfold CheckRet; rw [checkE_miss hl16.out hf.out, checkP_miss hl16.out hf.out]; rfl, HB.out⟩

end Go.Proofs.YtgcnjpiiofjljaaGreatDoor
/- What the document's Same, Is, Equal and Right answer. -/
namespace Go.Proofs.YtgcnjpiiofjljaaGreatDoor
open Go.RowKit Go.Deep

set_option maxRecDepth 100000 in
set_option maxHeartbeats 2000000 in
theorem rsame_any (x y : Tn) (a b : Option Addr) (c d : Nat) (w : World) (hS : TmAt w x.1 a c x.2) (hT : TmAt w y.1 b d y.2) :
    Calls Tryz.prog 29 #[.agg #[.string x.1.1, .int .i64 x.1.2, .slice a (lenF x.2) c], .agg #[.string y.1.1, .int .i64 y.1.2, .slice b (lenF y.2) d]] w fun e w' => e = .returned (.bool (cmpN x y == 0)) ∧ Below w.heap.size w w' := by
  obtain ⟨⟨xn, xs⟩, l⟩ := x
  obtain ⟨⟨yn, ys⟩, m⟩ := y
  obtain ⟨cv, hcv⟩ : ∃ cv, cmpN ((xn, xs), l) ((yn, ys), m) = cv := ⟨_, rfl⟩
  have PA : Hid (Pair w (xn, xs) a (lenF l) c (yn, ys) b (lenF m) d ((w.alloc (.cells #[.string xn, .int .i64 xs, .slice a (lenF l) c] 27)).alloc (.cells #[.string yn, .int .i64 ys, .slice b (lenF m) d] 27))) := Pair.new _ _ _ _ _ _ _ _ _
  have HC : Hid (∀ V, Below w.heap.size w V → Calls Tryz.prog 49 #[.agg #[.string xn, .int .i64 xs, .slice a (lenF l) c], .agg #[.string yn, .int .i64 ys, .slice b (lenF m) d]] V fun e w' => e = .returned (.int .i64 cv) ∧ Below V.heap.size V w') := fun V hV => by
    have := rcompare_all _ (xn, xs) (yn, ys) a b c d l m V (Nat.le_refl _) (hS.below hV) (hT.below hV)
    rw [show cmp1 (xn, xs) (yn, ys) (lenF l) (lenF m) (cmpF l m) = cv from hcv] at this
    exact this
  rw [hcv]
  clear hcv hS hT
  go_enter Tryz.func29, Tryz.ntmps29
  go_wp2_with (go_at_call 49; refine (HC.out _ PA.out.low).mono ?_; rintro e w1 ⟨rfl, hb1⟩; have HB1 : Hid (Below w.heap.size w w1) := PA.out.low.trans (hb1.mono PA.out.low.size); clear hb1)
  go_ret
  exact ⟨rfl, HB1.out⟩

set_option maxRecDepth 100000 in
set_option maxHeartbeats 2000000 in
theorem is_any (S : Option Addr) (n cap : Nat) (l : List Sym) (t : Tn) (a : Option Addr) (c : Nat) (w : World) (hS : SigAt w S n l) (hT : TmAt w t.1 a c t.2) (hk : nodesF t.2 ≤ 1048576) :
    Calls Tryz.prog 46 #[.slice S n cap, .agg #[.string t.1.1, .int .i64 t.1.2, .slice a (lenF t.2) c]] w fun e w' => e = .returned (.bool (exN (canonT (sgOf l) t).1 t.1 (canonT (sgOf l) t).2 t.2)) ∧ Below w.heap.size w w' := by
  obtain ⟨ct, hct⟩ : ∃ ct, canonT (sgOf l) t = ct := ⟨_, rfl⟩
  have HC : Hid (∀ W, Below w.heap.size w W → Calls Tryz.prog 28 #[.slice S n cap, .agg #[.string t.1.1, .int .i64 t.1.2, .slice a (lenF t.2) c]] W fun e w' => ∃ a' c', e = .returned (.agg #[.string ct.1.1, .int .i64 ct.1.2, .slice a' (lenF ct.2) c']) ∧ OwnTm false (fun q => W.heap.size ≤ q) w' ct.1 a' c' ct.2 ∧ Below W.heap.size W w') := fun W hW => by
    have := canon_all S n cap l 1048576 (Nat.le_refl _) t a c W hk (hS.below hW) (hT.below hW)
    rw [hct] at this
    exact this
  have HE : Hid (∀ W a' c', Below w.heap.size w W → TmAt W ct.1 a' c' ct.2 → Calls Tryz.prog 67 #[.agg #[.string ct.1.1, .int .i64 ct.1.2, .slice a' (lenF ct.2) c'], .agg #[.string t.1.1, .int .i64 t.1.2, .slice a (lenF t.2) c]] W fun e w' => e = .returned (.bool (exN ct.1 t.1 ct.2 t.2)) ∧ Below W.heap.size W w') := fun W a' c' hW hC => rexact_any ct t a' a c' c W hC (hT.below hW)
  have ON : Hid (TBox (w.alloc (.cells #[.string t.1.1, .int .i64 t.1.2, .slice a (lenF t.2) c] 27)) w.heap.size t.1 a (lenF t.2) c) := TBox.new w t.1 a (lenF t.2) c
  have HB0 : Hid (Below w.heap.size w (w.alloc (.cells #[.string t.1.1, .int .i64 t.1.2, .slice a (lenF t.2) c] 27))) := (Below.refl _ w).alloc (Nat.le_refl _) _
  rw [hct]
  clear hct hS hT
  go_enter Tryz.func46, Tryz.ntmps46
  go_wp2_with (first
    | (go_at_call 28; refine (HC.out _ HB0.out).mono ?_; rintro e w1 ⟨a', c', rfl, ho1, hb1⟩; have hba : Below w1.heap.size w1 (w1.alloc (.cells #[.string ct.1.1, .int .i64 ct.1.2, .slice a' (lenF ct.2) c'] 27)) := (Below.refl _ _).alloc (Nat.le_refl _) _; have hbb := hb1.trans (hba.mono hb1.size); have hbx := ON.out.below hbb; have c0 := hbx.c0; have c1 := hbx.c1; have c2 := hbx.c2; have HO1 : Hid (TmAt (w1.alloc (.cells #[.string ct.1.1, .int .i64 ct.1.2, .slice a' (lenF ct.2) c'] 27)) ct.1 a' c' ct.2) := ho1.tm.below hba; have HB1 : Hid (Below w.heap.size w (w1.alloc (.cells #[.string ct.1.1, .int .i64 ct.1.2, .slice a' (lenF ct.2) c'] 27))) := HB0.out.trans (hbb.mono HB0.out.size); clear ho1 hb1 hba hbb hbx)
    | (go_at_call 67; refine (HE.out _ _ _ HB1.out HO1.out).mono ?_; rintro e w2 ⟨rfl, hb2⟩; have HB2 : Hid (Below w.heap.size w w2) := HB1.out.trans (hb2.mono HB1.out.size); clear hb2))
  go_ret
  exact ⟨rfl, HB2.out⟩

set_option maxRecDepth 100000 in
set_option maxHeartbeats 2000000 in
theorem sright_any (S : Option Addr) (n cap : Nat) (l : List Sym) (w : World) (hS : SigAt w S n l) :
    Calls Tryz.prog 9 #[.slice S n cap] w fun e w' => e = .returned (.bool (checkE l == 0)) ∧ Below w.heap.size w w' := by
  have HC : Hid (Calls Tryz.prog 26 #[.slice S n cap] w fun e w' => CheckRet l e ∧ Below w.heap.size w w') := rcheck_any S n cap l w hS
  clear hS
  go_enter Tryz.func9, Tryz.ntmps9
  go_wp2_with (go_at_call 26; refine HC.out.mono ?_; rintro e w1 ⟨he, hb1⟩; unfold CheckRet at he; subst he; have HB1 : Hid (Below w.heap.size w w1) := hb1; clear hb1)
  go_ret
  exact ⟨rfl, HB1.out⟩
def rightB (l : List Sym) (t : Tn) : Bool := (checkE l == 0) && (errT l t.1 t.2 == 0)
set_option maxRecDepth 100000 in
set_option maxHeartbeats 2000000 in
theorem rright_any (S : Option Addr) (n cap : Nat) (l : List Sym) (t : Tn) (a : Option Addr) (c : Nat) (w : World) (hS : SigAt w S n l) (hT : TmAt w t.1 a c t.2) :
    Calls Tryz.prog 45 #[.slice S n cap, .agg #[.string t.1.1, .int .i64 t.1.2, .slice a (lenF t.2) c]] w fun e w' => e = .returned (.bool (rightB l t)) ∧ Below w.heap.size w w' := by
  obtain ⟨⟨tn, ts⟩, tl⟩ := t
  obtain ⟨ev, hev⟩ : ∃ ev, errT l (tn, ts) tl = ev := ⟨_, rfl⟩
  have ON : Hid (TBox (w.alloc (.cells #[.string tn, .int .i64 ts, .slice a (lenF tl) c] 27)) w.heap.size (tn, ts) a (lenF tl) c) := TBox.new w (tn, ts) a (lenF tl) c
  have HB0 : Hid (Below w.heap.size w (w.alloc (.cells #[.string tn, .int .i64 ts, .slice a (lenF tl) c] 27))) := (Below.refl _ w).alloc (Nat.le_refl _) _
  have HS : Hid (∀ W, Below w.heap.size w W → Calls Tryz.prog 9 #[.slice S n cap] W fun e w' => e = .returned (.bool (checkE l == 0)) ∧ Below W.heap.size W w') := fun W hW => sright_any S n cap l W (hS.below hW)
  have HN : Hid (∀ W, Below w.heap.size w W → Calls Tryz.prog 66 #[.slice S n cap, .agg #[.string tn, .int .i64 ts, .slice a (lenF tl) c]] W fun e w' => e = .returned (.int .i64 ev) ∧ Below W.heap.size W w') := fun W hW => by
    have := nodes_all l _ S n cap (tn, ts) tl a c W (Nat.le_refl _) (hS.below hW) (hT.below hW)
    rw [hev] at this
    exact this
  clear hS hT
  cases hc : (checkE l == 0)
  · have e : Hid (rightB l ((tn, ts), tl) = false) := by show _ = _; unfold rightB; rw [hc]; rfl
    rw [hc] at HS
    go_enter Tryz.func45, Tryz.ntmps45
    go_wp2_with (go_at_call 9; refine (HS.out _ HB0.out).mono ?_; rintro e w1 ⟨rfl, hb1⟩; have HB1 : Hid (Below w.heap.size w w1) := HB0.out.trans (hb1.mono HB0.out.size); have hbx := ON.out.below hb1; have c0 := hbx.c0; have c1 := hbx.c1; have c2 := hbx.c2; clear hb1 hbx)
    go_ret
    exact ⟨by rw [e.out]; rfl, HB1.out⟩
  · have e : Hid (rightB l ((tn, ts), tl) = (ev == 0)) := by show _ = _; unfold rightB; rw [hc, ← hev]; rfl
    rw [hc] at HS
    clear hev
    go_enter Tryz.func45, Tryz.ntmps45
    go_wp2_with (first
      | (go_at_call 9; refine (HS.out _ HB0.out).mono ?_; rintro e w1 ⟨rfl, hb1⟩; have HB1 : Hid (Below w.heap.size w w1) := HB0.out.trans (hb1.mono HB0.out.size); have hbx := ON.out.below hb1; have c0 := hbx.c0; have c1 := hbx.c1; have c2 := hbx.c2; clear hb1 hbx)
      | (go_at_call 66; refine (HN.out _ HB1.out).mono ?_; rintro e w2 ⟨rfl, hb2⟩; have HB2 : Hid (Below w.heap.size w w2) := HB1.out.trans (hb2.mono HB1.out.size); clear hb2))
    go_ret
    exact ⟨by rw [e.out]; rfl, HB2.out⟩
set_option maxRecDepth 100000 in
theorem right_facts {l : List Sym} {t : Tn} (h : rightB l t = true) : (sgOf l).Ok (arAt l) ∧ RightT (sgOf l) (arAt l) t := by
  unfold rightB at h
  simp only [Bool.and_eq_true, beq_iff_eq] at h
  exact ⟨sg_ok h.1, errT_right h.1 h.2⟩
end Go.Proofs.YtgcnjpiiofjljaaGreatDoor
/- What Same of binds answers, the program's and the document's. -/
namespace Go.Proofs.YtgcnjpiiofjljaaGreatDoor
open Go.RowKit Go.Deep

/-- Written alike. -/
def same1 (x y : Bn) : Bool := (x.1.toList == y.1.toList) && (cmpN x.2 y.2 == 0)
def sameA : List Bn → List Bn → Bool
  | [], [] => true
  | x :: r, y :: s => same1 x y && sameA r s
  | _, _ => false
theorem sameA_len : ∀ {a b : List Bn}, a.length ≠ b.length → sameA a b = false
  | [], [], h => absurd rfl h
  | [], _ :: _, _ => rfl
  | _ :: _, [], _ => rfl
  | x :: r, y :: s, h => by
    unfold sameA
    rw [sameA_len (by simpa using h), Bool.and_false]
theorem sameA_self : ∀ a : List Bn, sameA a a = true
  | [] => rfl
  | x :: r => by
    unfold sameA same1
    have h : cmpN x.2 x.2 = 0 := by have := cmpN_anti x.2 x.2; omega
    rw [sameA_self r, h]
    simp
theorem sameA_step {a b : List Bn} {j : Nat} (ha : j < a.length) (hb : j < b.length) : sameA (a.drop j) (b.drop j) = (same1 a[j] b[j] && sameA (a.drop (j + 1)) (b.drop (j + 1))) := by
  rw [List.drop_eq_getElem_cons ha, List.drop_eq_getElem_cons hb]
  rfl
set_option maxRecDepth 100000 in
set_option maxHeartbeats 2000000 in
/-- Same of two terms. -/
theorem tsame_any (x y : ByteArray × Int) (l m : Fo) (a b : Option Addr) (c d : Nat) (w : World) (hS : TmAt w x a c l) (hT : TmAt w y b d m) :
    Calls Tryz.prog 125 #[.agg #[.string x.1, .int .i64 x.2, .slice a (lenF l) c], .agg #[.string y.1, .int .i64 y.2, .slice b (lenF m) d]] w fun e w' => e = .returned (.bool (cmpN (x, l) (y, m) == 0)) ∧ Below w.heap.size w w' := by
  have PA := hid (Pair.new w x a (lenF l) c y b (lenF m) d)
  have HC := hid (compare_all (nodesF l) x y a b c d l m _ (Nat.le_refl _) (hS.below PA.out.low) (hT.below PA.out.low))
  have t0 := PA.out.l.c0; have t1 := PA.out.l.c1; have t2 := PA.out.l.c2
  have r0 := PA.out.r.c0; have r1 := PA.out.r.c1; have r2 := PA.out.r.c2
  obtain ⟨cv, hcv⟩ : ∃ cv, cmp1 x y (lenF l) (lenF m) (cmpF l m) = cv := ⟨_, rfl⟩
  have hcv' : cmpN (x, l) (y, m) = cv := hcv
  rw [hcv] at HC
  rw [hcv']
  clear hS hT hcv hcv'
  go_enter Tryz.func125, Tryz.ntmps125
  go_wp2_with fail
  refine HC.out.mono ?_
  rintro e w1 ⟨rfl, hg1⟩
  have HL := hid (PA.out.low.trans (hg1.below.mono PA.out.low.size))
  clear hg1 HC
  go_wp2_with fail
  go_ret
  exact ⟨rfl, HL.out⟩
end Go.Proofs.YtgcnjpiiofjljaaGreatDoor
/- What the document's Same of binds, In and Restrict answer; what spoil of binds does. -/
namespace Go.Proofs.YtgcnjpiiofjljaaGreatDoor
open Go.RowKit Go.Deep

set_option maxRecDepth 100000 in
set_option maxHeartbeats 4000000 in
/-- The document's Same of binds. -/
theorem rsameb_any (pa : Option Addr) (ca : Nat) (as' : List Bn) (pb : Option Addr) (cb : Nat) (bs : List Bn) (w : World) (hA : BindsAt w pa as'.length as') (hB : BindsAt w pb bs.length bs) :
    Calls Tryz.prog 12 #[.slice pa as'.length ca, .slice pb bs.length cb] w fun e w' => e = .returned (.bool (sameA as' bs)) ∧ Below w.heap.size w w' := by
  have HA := hid hA; have HB := hid hB
  have hna : as'.length ≤ 9223372036854775807 := hA.small
  have hnb : bs.length ≤ 9223372036854775807 := hB.small
  clear hA hB
  by_cases hl : as'.length = bs.length
  · obtain ⟨R, hR⟩ : ∃ R, sameA as' bs = R := ⟨_, rfl⟩
    rw [hR]
    have HR := hid hR
    have HLN := hid hl
    obtain ⟨n, hn⟩ : ∃ n, bs.length = n := ⟨_, rfl⟩
    rw [hn] at hl hnb ⊢
    rw [hl]
    have HN := hid hn
    clear hR hn hl hna
    go_enter Tryz.func12, Tryz.ntmps12
    go_wp2_with fail
    go_loopw [5, 6] (fun iv _ wr => ∃ j : Nat, j ≤ n ∧ iv = .int .i64 j ∧ sameA (as'.drop j) (bs.drop j) = R ∧ Below w.heap.size w wr) (fun iv _ _ => n - (intOf iv).toNat)
    case atStart => exact ⟨0, Nat.zero_le _, rfl, HR.out, Below.refl _ _⟩
    case round =>
      obtain ⟨j, hj, rfl, hs, hlow⟩ := hrel
      have HW := hid hlow
      clear hlow
      by_cases hlt : j < n
      · have hja : j < as'.length := by rw [HLN.out, HN.out]; exact hlt
        have hjb : j < bs.length := by rw [HN.out]; exact hlt
        rw [sameA_step hja hjb] at hs
        obtain ⟨b1, o1, a1, c1, rfl, hbd⟩ := (HA.out.below HW.out).cells j hja
        obtain ⟨b2, o2, a2, c2, rfl, hbd2⟩ := (HB.out.below HW.out).cells j hjb
        obtain ⟨⟨vx, ⟨x, l⟩⟩, hy⟩ : ∃ y, as'[j] = y := ⟨_, rfl⟩
        obtain ⟨⟨vy, ⟨y, m⟩⟩, hy2⟩ : ∃ y, bs[j] = y := ⟨_, rfl⟩
        rw [hy] at hbd hs
        rw [hy2] at hbd2 hs
        unfold same1 at hs
        dsimp only at hs
        have HS := hid hs
        have HBD := hid hbd; have HBD2 := hid hbd2
        obtain ⟨cv, hcv⟩ : ∃ cv, (cmpN (x, l) (y, m) == 0) = cv := ⟨_, rfl⟩
        have hC : Hid (∀ w', Below wr.heap.size wr w' → Calls Tryz.prog 29 #[.agg #[.string x.1, .int .i64 x.2, .slice a1 (lenF l) c1], .agg #[.string y.1, .int .i64 y.2, .slice a2 (lenF m) c2]] w' fun e w'' => e = .returned (.bool cv) ∧ Below w'.heap.size w' w'') := hid fun w' hb => by
          rw [← hcv]
          exact rsame_any (x, l) (y, m) a1 a2 c1 c2 w' (HBD.out.tm.below hb) (HBD2.out.tm.below hb)
        rw [hcv] at HS
        have hne := later_some wr
        have p1 := later_cell hbd.name; have p2 := later_cell hbd.sym; have p3 := later_cell hbd.list
        have q1 := later_cell hbd2.name; have q2 := later_cell hbd2.sym; have q3 := later_cell hbd2.list
        dsimp only at p1 p2 p3 q1 q2 q3
        have hk0 : (0 : Int) ≤ (j : Int) := by omega
        have hkn : (j : Int) < (n : Int) := by omega
        clear hbd hbd2 hs hy hy2 hcv hja hjb
        go_wp2_with fail
        refine wp_region_later (by kernel_rfl) (by kernel_rfl) ?_
        repeat (go_big_quiet_step ((refine calls_later (hC.out _ ?_); exact Later.below _)))
        refine wpQuiet_nil ?_
        intro _ hw'
        obtain ⟨b2', hw''⟩ := hw'
        subst hw''
        have HW2 : Hid (Below w.heap.size w b2'.now) := hid (HW.out.trans (b2'.below.mono HW.out.size))
        have r0 := later_cell (HBD.out.below b2'.below).var
        have s0 := later_cell (HBD2.out.below b2'.below).var
        dsimp only at r0 s0
        have hne2 := later_some b2'.now
        clear p1 p2 p3 q1 q2 q3 hC
        cases cv with
        | false =>
          have hR := HS.out
          rw [Bool.and_false, Bool.false_and] at hR
          subst hR
          clear HS
          go_wp2_with fail
          refine wp_region_later (by kernel_rfl) (by kernel_rfl) ?_
          repeat (go_big_quiet_step (fail))
          refine wpQuiet_nil ?_
          intro _ hw'
          obtain ⟨b3, hw''⟩ := hw'
          subst hw''
          have HW3 := hid (HW2.out.trans (b3.below.mono HW2.out.size))
          clear r0 s0
          go_wp2
          go_ret
          exact ⟨rfl, HW3.out⟩
        | true =>
          by_cases he : vx.toList = vy.toList
          · have heb : (vx.toList == vy.toList) = true := by simp [he]
            have hR := HS.out
            rw [heb, Bool.true_and, Bool.true_and] at hR
            have HS2 := hid hR
            clear HS hR
            go_wp2_with fail
            refine wp_region_later (by kernel_rfl) (by kernel_rfl) ?_
            repeat (go_big_quiet_step (fail))
            refine wpQuiet_nil ?_
            intro _ hw'
            obtain ⟨b3, hw''⟩ := hw'
            subst hw''
            have HW3 := hid (HW2.out.trans (b3.below.mono HW2.out.size))
            clear r0 s0
            go_wp2
            go_roundw
            case rel => exact ⟨j + 1, by omega, by go_num, HS2.out, HW3.out⟩
            case measure => simp [intOf]; omega
          · have heb : (vx.toList == vy.toList) = false := by simp [he]
            have hR := HS.out
            rw [heb, Bool.false_and, Bool.false_and] at hR
            subst hR
            clear HS
            go_wp2_with fail
            refine wp_region_later (by kernel_rfl) (by kernel_rfl) ?_
            repeat (go_big_quiet_step (fail))
            refine wpQuiet_nil ?_
            intro _ hw'
            obtain ⟨b3, hw''⟩ := hw'
            subst hw''
            have HW3 := hid (HW2.out.trans (b3.below.mono HW2.out.size))
            clear r0 s0
            go_wp2
            go_ret
            exact ⟨rfl, HW3.out⟩
      · have hd : as'.drop j = [] := List.drop_eq_nil_of_le (by rw [HLN.out, HN.out]; omega)
        have hd2 : bs.drop j = [] := List.drop_eq_nil_of_le (by rw [HN.out]; omega)
        rw [hd, hd2] at hs
        have hR : R = true := hs.symm
        subst hR
        clear hs hd hd2
        go_wp2
        go_ret
        exact ⟨rfl, HW.out⟩
  · rw [sameA_len hl]
    have hl2 : ¬ ((as'.length : Int) = (bs.length : Int)) := by omega
    have hl3 : ((as'.length : Int) == (bs.length : Int)) = false := beq_eq_false_iff_ne.2 hl2
    go_enter Tryz.func12, Tryz.ntmps12
    go_wp2
    go_ret
    exact ⟨rfl, Below.refl _ _⟩
theorem inL_take {l : List ByteArray} {s : ByteArray} {j : Nat} (h : j < l.length) : inL (l.take (j + 1)) s = (inL (l.take j) s || decide (l[j] = s)) := by rw [List.take_succ_eq_append_getElem h, inL_snoc]
theorem toList_iff {a b : ByteArray} : a.toList = b.toList ↔ a = b := ⟨fun h => by rw [ByteArray.toList_eq, ByteArray.toList_eq] at h; exact bytes_eq h, fun h => by rw [h]⟩
set_option maxRecDepth 100000 in
set_option maxHeartbeats 2000000 in
/-- In. -/
theorem in_any (p : Option Addr) (cap : Nat) (ss : List ByteArray) (s : ByteArray) (w : World) (hB : StrsAt w p ss.length ss) :
    Calls Tryz.prog 32 #[.slice p ss.length cap, .string s] w fun e w' => e = .returned (.bool (inL ss s)) ∧ w' = w := by
  have HB := hid hB
  have hn : ss.length ≤ 9223372036854775807 := hB.small
  obtain ⟨R, hR⟩ : ∃ R, inL ss s = R := ⟨_, rfl⟩
  rw [hR]
  have HR := hid hR
  clear hB hR
  go_enter Tryz.func32, Tryz.ntmps32
  go_wp2_with fail
  go_loopw [5] (fun iv wr => ∃ j : Nat, j ≤ ss.length ∧ iv = .int .i64 j ∧ inL (ss.take j) s = false ∧ wr = w) (fun iv _ => ss.length - (intOf iv).toNat)
  case atStart => exact ⟨0, Nat.zero_le _, rfl, by simp [inL], rfl⟩
  case round =>
    obtain ⟨j, hj, rfl, hs, rfl⟩ := hrel
    by_cases hlt : j < ss.length
    · obtain ⟨b1, o1, rfl, p0⟩ := HB.out.cells j hlt
      have htk := inL_take (s := s) hlt
      have hmem : ss[j] ∈ ss := List.getElem_mem hlt
      obtain ⟨t, ht⟩ : ∃ t, ss[j] = t := ⟨_, rfl⟩
      rw [ht] at p0 htk hmem
      have hj0 : (0 : Int) ≤ (j : Int) := by omega
      have hjn : (j : Int) < (ss.length : Int) := by omega
      by_cases he : t.toList = s.toList
      · have heq := toList_iff.1 he
        have hin : inL ss s = true := by
          unfold inL
          exact List.any_eq_true.2 ⟨t, hmem, by simp [heq]⟩
        have heb : (t.toList == s.toList) = true := by simp [he]
        have hR : R = true := by rw [← HR.out]; exact hin
        subst hR
        clear htk ht hs hmem heq hin HR
        go_wp2
        go_ret
        exact ⟨rfl, rfl⟩
      · have hne : ¬ t = s := fun e => he (by rw [e])
        have heb : (t.toList == s.toList) = false := by simp [he]
        have HTK : Hid (inL (ss.take (j + 1)) s = false) := hid (by rw [htk, hs]; simp [hne])
        clear htk ht hs hmem hne
        go_wp2
        go_roundw
        case rel => exact ⟨j + 1, by omega, by go_num, HTK.out, trivial⟩
        case measure => simp [intOf]; omega
    · rw [List.take_of_length_le (by omega)] at hs
      have hR : R = false := by rw [← HR.out]; exact hs
      subst hR
      clear hs HR
      go_wp2
      go_ret
      exact ⟨rfl, rfl⟩
end Go.Proofs.YtgcnjpiiofjljaaGreatDoor
/- Rows of texts under way; the document's First. -/
namespace Go.Proofs.YtgcnjpiiofjljaaGreatDoor
open Go.RowKit Go.Deep

def strV (l : List ByteArray) : List Value := l.map Value.string
theorem enc_nm (s : ByteArray) : encStr s.data.toList = Value.string s := by simp [encStr]
theorem str_one (l : List ByteArray) : ∀ u ∈ strV l, u.oneCell' = true := by
  intro u hu
  obtain ⟨s, _, rfl⟩ := List.mem_map.1 hu
  rfl
/-- A row of texts, as a list. -/
theorem row_strs {B : Nat} {W : World} {v : Value} {ss : List ByteArray} (h : W.ownsRow B 9 1 v ss.length (strV ss)) (hf : ∀ s ∈ ss, s.size ≤ maxLen) : ∃ p cap, v = .slice p ss.length cap ∧ StrsAt W p ss.length ss := by
  rcases h.2 with ⟨h1, h2⟩ | ⟨g, cap, cur, h1, _⟩
  · have : ss = [] := List.eq_nil_of_length_eq_zero h2
    subst this
    exact ⟨none, 0, h1, rfl, by simp, fun i hi => absurd hi (by simp), fun s hs => absurd hs (by simp)⟩
  · subst h1
    have hc := owns_cap h
    refine ⟨_, cap, rfl, rfl, by omega, fun i hi => ⟨g, 0, rfl, ?_⟩, hf⟩
    exact owns_at h i _ (by unfold strV; rw [List.getElem?_map, List.getElem?_eq_getElem hi]; rfl)
theorem own_lt {B : Nat} {W : World} {v : Value} {n : Nat} {xs : List Value} {g : Nat} (h : W.ownsRow B 9 1 v n xs) (hg : v.ownBlock = some g) : B ≤ g ∧ g < W.heap.size := by
  obtain ⟨h1, cur, hc⟩ := owns_cells h hg
  exact ⟨h1, (Array.getElem?_eq_some_iff.1 hc).1⟩
set_option maxRecDepth 100000 in
/-- append of one text. -/
theorem wpList_append_str {ops : Array Oper} {rest : List Oper} {o : Oper} {a : Act} {Q : Exit → Act → World → Prop} {W : World} (hgd : o.guard = none) (s x : Operand)
    (ho : o.op = .call { callee := .builtin .append, args := #[s, x], argTypes := #[28, 28] }) (base : Nat) (v : Value) (ss : List ByteArray) (hs : a.eval s = v) (hown : W.ownsRow base 9 1 v ss.length (strV ss))
    (nb : Nat) (y : ByteArray) (hx : a.eval x = .slice (some ⟨nb, 0, none⟩) 1 1) (hm : W.cell? ⟨nb, 0, none⟩ = some (.string y)) (hbig : ss.length ≤ 4194304) (hbase : base ≤ W.heap.size)
    (h : ∀ g' cap' w', w'.ownsRow base 9 1 (.slice (some ⟨g', 0, none⟩) (ss.length + 1) cap') (ss ++ [y]).length (strV (ss ++ [y])) → W.grownBy w' v.ownBlock → (some g' = v.ownBlock ∨ g' = W.heap.size) → wpList Tryz.prog ops Q rest (a.put o.dst (.slice (some ⟨g', 0, none⟩) (ss.length + 1) cap')) w') : wpList Tryz.prog ops Q (o :: rest) a W := by
  obtain ⟨i0, hi, hz0, hz1, hz2⟩ := info_parts Tryz.info9
  have hmax : maxLen = 9223372036854775807 := rfl
  refine wpList_append_lies _ hgd s x 28 ho base 9 i0 _ 1 16 Tryz.underlying28 hi hz0 hz1 hz2 rfl (by decide) v ss.length (strV ss) hs hown ⟨nb, 0, none⟩ 1 1 [.string y] hx rfl ?_ ?_ (by decide) (by omega) (by omega) hbase _ rfl ?_
  · intro j u hj
    match j with
    | 0 => cases hj; rw [Addr.add_lit]; exact hm
    | j + 1 => cases hj
  · intro u hu
    rw [List.mem_singleton.1 hu]; rfl
  · intro g cap w' h1 h2 h3 _
    refine h g cap w' ?_ h2 ?_
    · rw [List.length_append, strV, List.map_append]
      exact h1
    · rcases h3 with h3 | h3
      · exact .inl h3.symm
      · exact .inr h3
/-- First's loop. -/
structure FsK (B : Nat) (w0 : World) (va : Value) (all : List ByteArray) (v : Value) (ss : List ByteArray) (W : World) : Prop where
  row : W.ownsRow B 9 1 v ss.length (strV ss)
  al : W.ownsRow w0.heap.size 9 1 va all.length (strV all)
  ne : ∀ q, v.ownBlock = some q → va.ownBlock ≠ some q
  low : Below B w0 W
theorem FsK.grow {B : Nat} {w0 : World} {va : Value} {all : List ByteArray} {v v' : Value} {ss : List ByteArray} {W W1 W2 : World} {y : ByteArray} (h : FsK B w0 va all v ss W) (hb : Below W.heap.size W W1) (hB : B ≤ w0.heap.size) (hs : w0.heap.size ≤ W.heap.size)
    (ho : W2.ownsRow B 9 1 v' (ss ++ [y]).length (strV (ss ++ [y]))) (hg : W1.grownBy W2 v.ownBlock) (hat : v'.ownBlock = v.ownBlock ∨ v'.ownBlock = some W1.heap.size) : FsK B w0 va all v' (ss ++ [y]) W2 := by
  have hsz := hb.size
  refine ⟨ho, ?_, fun q hq hq2 => ?_, ?_⟩
  · have h1 := owns_below h.al hb
    refine owns_block h1 fun q hq => hg.block q (own_lt h1 hq).2 fun e => h.ne q e.symm hq
  · rcases hat with e | e
    · rw [e] at hq; exact h.ne q hq hq2
    · rw [e] at hq
      cases hq
      have := (own_lt h.al hq2).2
      omega
  · exact (h.low.trans (hb.mono (by omega))).grown hg (by omega) fun k e => (own_lt h.row e).1
theorem once_size {ss : List ByteArray} (h : ∀ s ∈ ss, s.size ≤ maxLen) {x : ByteArray} (hx : x.size ≤ maxLen) : ∀ s ∈ onceN ss x, s.size ≤ maxLen := by
  unfold onceN
  split
  · exact h
  · intro s hs
    rcases List.mem_append.1 hs with h1 | h1
    · exact h s h1
    · rw [List.mem_singleton.1 h1]; exact hx
theorem once_fold : ∀ (occ ss : List ByteArray), (∀ s ∈ ss, s.size ≤ maxLen) → (∀ s ∈ occ, s.size ≤ maxLen) → (∀ s ∈ occ.foldl onceN ss, s.size ≤ maxLen) ∧ (occ.foldl onceN ss).length ≤ ss.length + occ.length
  | [], ss, h, _ => ⟨h, Nat.le_refl _⟩
  | x :: r, ss, h, ho => by
    have h1 := once_fold r (onceN ss x) (once_size h (ho x (by simp))) fun s hs => ho s (by simp [hs])
    have h2 : (onceN ss x).length ≤ ss.length + 1 := by unfold onceN; split <;> simp
    rw [List.foldl_cons, List.length_cons]
    exact ⟨h1.1, by omega⟩
theorem strV_names (l : List ByteArray) : (l.map fun s => s.data.toList).map encStr = strV l := by
  rw [List.map_map]
  exact List.map_congr_left fun s _ => enc_nm s
set_option maxRecDepth 100000 in
set_option maxHeartbeats 2000000 in
/-- First. -/
theorem first_any (B : Nat) (x : ByteArray × Int) (l : Fo) (a : Option Addr) (c : Nat) (v : Value) (ss occ : List ByteArray) (w : World) (hT : TmAt w x a c l) (hB : B ≤ w.heap.size) (hv : w.ownsRow B 9 1 v ss.length (strV ss)) (hfit : ∀ s ∈ ss, s.size ≤ maxLen) (hfo : ∀ s ∈ occ, s.size ≤ maxLen)
    (hocc : namesN x ++ namesFo l = occ.map fun s => s.data.toList) (hsz : ss.length + occ.length ≤ 4194304) (hn : nodesF l ≤ 1048576) :
    Calls Tryz.prog 31 #[.agg #[.string x.1, .int .i64 x.2, .slice a (lenF l) c], v] w fun e w' => ∃ v', e = .returned v' ∧ w'.ownsRow B 9 1 v' (occ.foldl onceN ss).length (strV (occ.foldl onceN ss)) ∧ Below B w w' := by
  have T0 := TBox.new w x a (lenF l) c
  have b0 := alloc_below0 w (.cells #[.string x.1, .int .i64 x.2, .slice a (lenF l) c] 27)
  have HNA := hid (names_all 1048576 (w.alloc (.cells #[.string x.1, .int .i64 x.2, .slice a (lenF l) c] 27)) x l a c (.slice none 0 0) [] (w.alloc (.cells #[.string x.1, .int .i64 x.2, .slice a (lenF l) c] 27)) hn (hT.below b0) (Below.refl _ _) (World.ownsRow_nil _ _ _ _) (by simp only [List.length_nil]; omega))
  have z0 := T0.c0; have z1 := T0.c1; have z2 := T0.c2
  have HV := hid (owns_below hv b0); have HB0 := hid b0; have HFI := hid hfit; have HFO := hid hfo; have HOC := hid hocc
  have hs0 : B ≤ (w.alloc (.cells #[.string x.1, .int .i64 x.2, .slice a (lenF l) c] 27)).heap.size := by simp; omega
  clear hT hv b0 T0 hfit hfo hocc
  go_enter Tryz.func31, Tryz.ntmps31
  go_wp2_with (go_at_call 50; refine HNA.out.mono ?_; rintro e w2 ⟨va, rfl, hal, hnv⟩; have HLW := hid hnv.low; have HAL : Hid (w2.ownsRow (w.alloc (.cells #[.string x.1, .int .i64 x.2, .slice a (lenF l) c] 27)).heap.size 9 1 va occ.length (strV occ)) := hid (by have h := hal; rw [List.nil_append, HOC.out, strV_names, List.length_map] at h; exact h); clear hal hnv)
  have HK0 : Hid (FsK B (w.alloc (.cells #[.string x.1, .int .i64 x.2, .slice a (lenF l) c] 27)) va occ v ss w2) := hid ⟨owns_below HV.out HLW.out, HAL.out, fun q hq hq2 => by
      have h1 := (own_lt HV.out hq).2
      have h2 := (own_lt HAL.out hq2).1
      omega, HLW.out.mono hs0⟩
  have HA2 := hid HLW.out.size
  have HBB : Hid (Below B w (w.alloc (.cells #[.string x.1, .int .i64 x.2, .slice a (lenF l) c] 27))) := hid (HB0.out.mono hB)
  clear HLW HAL HV HB0 z0 z1 z2 HNA
  generalize w.alloc (.cells #[.string x.1, .int .i64 x.2, .slice a (lenF l) c] 27) = WA at HK0 HA2 HBB hs0 ⊢
  go_loopw [1, 6] (fun lv iv wr => ∃ j : Nat, j ≤ occ.length ∧ iv = .int .i64 j ∧ FsK B WA va occ lv ((occ.take j).foldl onceN ss) wr ∧ WA.heap.size ≤ wr.heap.size) (fun _ iv _ => occ.length - (intOf iv).toNat)
  case atStart => exact ⟨0, Nat.zero_le _, rfl, HK0.out, HA2.out⟩
  case round =>
    obtain ⟨j, hj, rfl, hK, hws⟩ := hrel
    obtain ⟨pa, ca, hva, hsa⟩ := row_strs hK.al HFO.out
    obtain ⟨hfit1, hlen1⟩ := once_fold (occ.take j) ss HFI.out fun s hs => HFO.out s (List.mem_of_mem_take hs)
    rw [List.length_take] at hlen1
    have hoj : occ.length ≤ 4194304 := by omega
    by_cases hlt : j < occ.length
    · obtain ⟨bb, oo, rfl, p0⟩ := hsa.cells j hlt
      subst hva
      have htk : occ.take (j + 1) = occ.take j ++ [occ[j]] := List.take_succ_eq_append_getElem hlt
      obtain ⟨s, hs⟩ : ∃ s, occ[j] = s := ⟨_, rfl⟩
      rw [hs] at p0 htk
      obtain ⟨S, hS⟩ : ∃ S, (occ.take j).foldl onceN ss = S := ⟨_, rfl⟩
      have hnx : (occ.take (j + 1)).foldl onceN ss = onceN S s := by rw [htk, List.foldl_append, hS]; rfl
      rw [hS] at hK hlen1 hfit1
      obtain ⟨pv, cv, rfl, hsv⟩ := row_strs hK.row hfit1
      have HIN := hid (in_any pv cv S s wr hsv)
      have HNX := hid hnx; have HK := hid hK
      clear hS hnx htk hs hsv hK hsa hfit1
      cases hin : inL S s with
      | true =>
        have hmem := mem_inL.1 hin
        go_wp2_with (go_at_call 32; refine HIN.out.mono ?_; rintro e w' ⟨rfl, rfl⟩; rw [hin])
        go_roundw
        case rel =>
          refine ⟨j + 1, by omega, by go_num, ?_, hws⟩
          rw [HNX.out, show onceN S s = S from if_pos hmem]
          exact HK.out
        case measure => simp [intOf]; omega
      | false =>
        have hmem : s ∉ S := fun hm => by rw [mem_inL.2 hm] at hin; cases hin
        have b1 := alloc_below0 wr (.cells #[.string s] 9)
        have c0 : (wr.alloc (.cells #[.string s] 9)).cell? ⟨wr.heap.size, 0, none⟩ = some (.string s) := by rw [World.cell?_alloc_new]; rfl
        have HRA := hid (owns_below HK.out.row b1)
        have HB1 := hid b1; have HC0 := hid c0
        clear b1 c0
        go_wp2_with (first
          | (go_at_call 32; refine HIN.out.mono ?_; rintro e w' ⟨rfl, rfl⟩; rw [hin])
          | (at_builtin; go_loud (refine wpList_append_str rfl (.tmp 24) (.tmp 29) rfl B _ S rfl HRA.out _ s rfl HC0.out (by omega) (by simp; omega) ?_; intro g3 cap3 w3 hown3 hgrow3 hat3; have HK3 := hid (HK.out.grow HB1.out hs0 hws hown3 hgrow3 (by rcases hat3 with h | h; exact .inl h; exact .inr (congrArg some h))); have hw3 := hgrow3.size; clear hown3 hgrow3 hat3)))
        go_roundw
        case rel =>
          refine ⟨j + 1, by omega, by go_num, ?_, by simp at hw3; omega⟩
          rw [HNX.out, show onceN S s = S ++ [s] from if_neg hmem]
          exact HK3.out
        case measure => simp [intOf]; omega
    · have e1 : j = occ.length := by omega
      have ht : occ.take j = occ := List.take_of_length_le (by omega)
      rw [ht] at hK
      subst hva
      have HK := hid hK
      clear hK hfit1
      go_wp2_with fail
      go_ret
      exact ⟨_, rfl, HK.out.row, HBB.out.trans (HK.out.low)⟩
end Go.Proofs.YtgcnjpiiofjljaaGreatDoor
/- A row of binds that is made and then filled. -/
namespace Go.Proofs.YtgcnjpiiofjljaaGreatDoor
open Go.RowKit Go.Deep

theorem owns_set1 {w : World} {base e size g n cap : Nat} {xs : List Value} (h : w.ownsRow base e size (.slice (some ⟨g, 0, none⟩) n cap) n xs) (o : Nat) (u : Value) : (w.setCell ⟨g, o, none⟩ u).ownsRow base e size (.slice (some ⟨g, 0, none⟩) n cap) n (xs.set o u) := by
  refine ⟨by rw [List.length_set]; exact h.1, ?_⟩
  rcases h.2 with ⟨h1, _⟩ | ⟨g', cap', cur, h1, h2, h3, h4, h5, h6, h7⟩
  · cases h1
  · cases h1
    refine .inr ⟨g, cap, cur.setIfInBounds o u, rfl, h2, block_set h3 u, h4, h5, by rw [Array.size_setIfInBounds]; exact h6, ?_⟩
    rw [Array.toList_setIfInBounds, List.take_set, h7]
theorem owns_froz {w : World} {base e size g n cap : Nat} {xs : List Value} (h : w.ownsRow base e size (.slice (some ⟨g, 0, none⟩) n cap) n xs) (i : Nat) : w.frozen? ⟨g, i, none⟩ = false := by
  obtain ⟨_, cur, hc⟩ := owns_cells h (g := g) rfl
  simp [World.frozen?, hc]
/-- A bind of nothing. -/
def zBk : Bk := (⟨#[]⟩, ⟨(⟨#[]⟩, 0), .nil, none, 0⟩)
theorem bk_set : ∀ (ks : List Bk) (m : Nat) (y : Bk), m < ks.length → bkAll (ks.set m y) = ((((bkAll ks).set (m * 4) (.string y.1)).set (m * 4 + 1) (.string y.2.x.1)).set (m * 4 + 2) (.int .i64 y.2.x.2)).set (m * 4 + 3) (.slice y.2.a (lenF y.2.l) y.2.c)
  | [], m, y, h => absurd h (by simp)
  | q :: r, 0, y, _ => rfl
  | q :: r, m + 1, y, h => by
    have ih := bk_set r m y (by simpa using h)
    have e : bkAll (q :: r) = .string q.1 :: .string q.2.x.1 :: .int .i64 q.2.x.2 :: .slice q.2.a (lenF q.2.l) q.2.c :: bkAll r := rfl
    have e2 : bkAll ((q :: r).set (m + 1) y) = .string q.1 :: .string q.2.x.1 :: .int .i64 q.2.x.2 :: .slice q.2.a (lenF q.2.l) q.2.c :: bkAll (r.set m y) := rfl
    rw [e, e2, ih, show (m + 1) * 4 = m * 4 + 1 + 1 + 1 + 1 by omega, show m * 4 + 1 + 1 + 1 + 1 + 1 = (m * 4 + 1) + 1 + 1 + 1 + 1 by omega, show m * 4 + 1 + 1 + 1 + 1 + 2 = (m * 4 + 2) + 1 + 1 + 1 + 1 by omega, show m * 4 + 1 + 1 + 1 + 1 + 3 = (m * 4 + 3) + 1 + 1 + 1 + 1 by omega]
    simp only [List.set_cons_succ]
/-- Four cells stored. -/
def set4 (W : World) (g o : Nat) (y : Bk) : World := (((W.setCell ⟨g, o, none⟩ (.string y.1)).setCell ⟨g, o + 1, none⟩ (.string y.2.x.1)).setCell ⟨g, o + 2, none⟩ (.int .i64 y.2.x.2)).setCell ⟨g, o + 3, none⟩ (.slice y.2.a (lenF y.2.l) y.2.c)
theorem set4_far {W : World} {g q : Nat} (h : q ≠ g) (o : Nat) (y : Bk) : (set4 W g o y).heap[q]? = W.heap[q]? :=
  ((((Below.heap_setCell _ ⟨g, o + 3, none⟩ _ q h).trans (Below.heap_setCell _ ⟨g, o + 2, none⟩ _ q h)).trans (Below.heap_setCell _ ⟨g, o + 1, none⟩ _ q h)).trans (Below.heap_setCell _ ⟨g, o, none⟩ _ q h))
theorem set4_below {n0 : Nat} {w W : World} {g : Nat} (hb : Below n0 w W) (h : n0 ≤ g) (o : Nat) (y : Bk) : Below n0 w (set4 W g o y) :=
  (((hb.setCell (p := ⟨g, o, none⟩) h _).setCell (p := ⟨g, o + 1, none⟩) h _).setCell (p := ⟨g, o + 2, none⟩) h _).setCell (p := ⟨g, o + 3, none⟩) h _
theorem owns_set4 {w : World} {base e size g n cap : Nat} {ks : List Bk} (h : w.ownsRow base e size (.slice (some ⟨g, 0, none⟩) n cap) n (bkAll ks)) {m : Nat} (hm : m < ks.length) (y : Bk) : (set4 w g (m * 4) y).ownsRow base e size (.slice (some ⟨g, 0, none⟩) n cap) n (bkAll (ks.set m y)) := by
  rw [bk_set ks m y hm]
  exact owns_set1 (owns_set1 (owns_set1 (owns_set1 h _ _) _ _) _ _) _ _
/-- A row under way: the first are filled. -/
structure FillB (B : Nat) (n g : Nat) (W : World) (ks : List Bk) : Prop where
  row : W.ownsRow B 42 4 (.slice (some ⟨g, 0, none⟩) n n) n (bkAll (ks ++ List.replicate (n - ks.length) zBk))
  gl : GL SepE W (ks.map (·.2)) (fun q => B ≤ q ∧ q ≠ g)
  le : ks.length ≤ n
theorem FillB.lt {B n g : Nat} {W : World} {ks : List Bk} (h : FillB B n g W ks) : g < W.heap.size := by
  obtain ⟨cur, hc⟩ := (owns_cells h.row (g := g) rfl).2
  exact (Array.getElem?_eq_some_iff.1 hc).1
theorem FillB.base {B n g : Nat} {W : World} {ks : List Bk} (h : FillB B n g W ks) : B ≤ g := (owns_cells h.row (g := g) rfl).1
theorem FillB.below {B n g : Nat} {W W' : World} {ks : List Bk} (h : FillB B n g W ks) (hb : Below W.heap.size W W') : FillB B n g W' ks :=
  ⟨owns_below h.row hb, h.gl.keep sepE (fun q _ hlt => hb.block q hlt), h.le⟩
theorem FillB.cells {B n g : Nat} {W : World} {ks : List Bk} (h : FillB B n g W ks) (hlt : ks.length < n) (k : Nat) (hk : k < 4) : ∃ u, W.cell? ⟨g, ks.length * 4 + k, none⟩ = some u := by
  have hat := owns_at h.row
  have hin : ks.length < (ks ++ List.replicate (n - ks.length) zBk).length := by simp; omega
  have h1 := bkAll_at (ks ++ List.replicate (n - ks.length) zBk) ks.length hin k hk
  obtain ⟨u, hu⟩ : ∃ u, (bkCells (ks ++ List.replicate (n - ks.length) zBk)[ks.length])[k]? = some u := ⟨_, List.getElem?_eq_getElem (show k < (bkCells _).length from hk)⟩
  rw [hu] at h1
  have := hat _ u h1
  rw [Nat.zero_add] at this
  exact ⟨u, this⟩
theorem FillB.step {B n g : Nat} {W W1 : World} {ks : List Bk} {y : Bk} (h : FillB B n g W ks) (hb : Below W.heap.size W W1) (hm : SepTm W1 (fun q => W.heap.size ≤ q) y.2.x y.2.a y.2.c y.2.l) (hB : B ≤ W.heap.size) (hlt : ks.length < n) : FillB B n g (set4 W1 g (ks.length * 4) y) (ks ++ [y]) := by
  have hg := h.lt
  have hin : ks.length < (ks ++ List.replicate (n - ks.length) zBk).length := by simp; omega
  have e : (ks ++ List.replicate (n - ks.length) zBk).set ks.length y = (ks ++ [y]) ++ List.replicate (n - (ks ++ [y]).length) zBk := by
    rw [List.set_append_right (h := Nat.le_refl _), Nat.sub_self, List.append_assoc]
    congr 1
    obtain ⟨m, hm⟩ : ∃ m, n - ks.length = m + 1 := ⟨n - ks.length - 1, by omega⟩
    rw [hm, List.replicate_succ, List.set_cons_zero, List.length_append, List.length_cons, List.length_nil, show n - (ks.length + (0 + 1)) = m by omega]
    rfl
  refine ⟨?_, ?_, by simp; omega⟩
  · have := owns_set4 (owns_below h.row hb) hin y
    rw [e] at this
    exact this
  · have h1 : GL SepE (set4 W1 g (ks.length * 4) y) (ks.map (·.2)) (fun q => (B ≤ q ∧ q ≠ g) ∧ q < W.heap.size) := by
      refine (h.gl.within sepE).keep sepE (fun q hq hlt => ?_)
      rw [set4_far hq.1.2]
      exact hb.block q hlt
    have h2 : SepTm (set4 W1 g (ks.length * 4) y) (fun q => W.heap.size ≤ q) y.2.x y.2.a y.2.c y.2.l := hm.keep (fun q hq hlt => set4_far (by omega) _ _)
    have h3 := GL.snoc (E := SepE) (k := y.2) h1 h2 (fun q hq hq2 => by omega)
    rw [List.map_append]
    refine h3.mono fun q hq => ?_
    rcases hq with hq | hq
    · exact hq.1
    · exact ⟨by omega, by omega⟩
theorem FillB.done {B n g : Nat} {W : World} {ks : List Bk} (h : FillB B n g W ks) (hl : ks.length = n) : SepB B W (.slice (some ⟨g, 0, none⟩) n n) ks := by
  refine ⟨?_, h.gl.mono fun q hq => ⟨hq.1, fun e => hq.2 (Option.some.inj e)⟩⟩
  have := h.row
  rw [hl, Nat.sub_self, List.replicate_zero, List.append_nil] at this
  rw [hl]
  exact this
theorem made_bks (n : Nat) : (madeCells (Value.cells (.agg #[.string ⟨#[]⟩, .string ⟨#[]⟩, .int .i64 0, .slice none 0 0])) (n * 4)).toList = bkAll (List.replicate n zBk) := by
  have hl : (bkAll (List.replicate n zBk)).length = n * 4 := by rw [bkAll_len, List.length_replicate]
  refine List.ext_getElem? fun j => ?_
  by_cases hj : j < n * 4
  · have h1 := bkAll_at (List.replicate n zBk) (j / 4) (by rw [List.length_replicate]; omega) (j % 4) (by omega)
    rw [show j / 4 * 4 + j % 4 = j by omega, List.getElem_replicate] at h1
    rw [h1]
    unfold madeCells
    have h4 : j % 4 < 4 := by omega
    obtain ⟨k, hk⟩ : ∃ k, j % 4 = k := ⟨_, rfl⟩
    simp [hj, Value.cells, bkCells, zBk, lenF, hk]
    rw [hk] at h4
    match k, h4 with
    | 0, _ => rfl
    | 1, _ => rfl
    | 2, _ => rfl
    | 3, _ => rfl
  · have h2 : (madeCells (Value.cells (.agg #[.string ⟨#[]⟩, .string ⟨#[]⟩, .int .i64 0, .slice none 0 0])) (n * 4)).toList.length = n * 4 := by
      unfold madeCells
      simp
    rw [List.getElem?_eq_none (by omega), List.getElem?_eq_none (by omega)]
theorem FillB.start {B n g : Nat} {W : World} (h : W.ownsRow B 42 4 (.slice (some ⟨g, 0, none⟩) n n) n (madeCells (Value.cells (.agg #[.string ⟨#[]⟩, .string ⟨#[]⟩, .int .i64 0, .slice none 0 0])) (n * 4)).toList) : FillB B n g W [] := by
  refine ⟨?_, trivial, Nat.zero_le _⟩
  have e : (madeCells (Value.cells (.agg #[.string ⟨#[]⟩, .string ⟨#[]⟩, .int .i64 0, .slice none 0 0])) (n * 4)).toList = bkAll ([] ++ List.replicate (n - ([] : List Bk).length) zBk) := by
    rw [List.nil_append, List.length_nil, Nat.sub_zero, made_bks]
  rw [← e]; exact h
end Go.Proofs.YtgcnjpiiofjljaaGreatDoor
/- append of what another slice of terms holds, be it nil, be it empty: where the new row lies. -/
namespace Go.Proofs.YtgcnjpiiofjljaaGreatDoor
open Go.RowKit Go.Deep

theorem run_append_empty {P : Program} {w : World} (base : Nat) (t ty e : TypeId) (i : TypeInfo) (size : Nat) (ht : P.underlying t = some (.slice e)) (hi : P.info? e = some i)
    (v : Value) (n : Nat) (xs : List Value) (hown : w.ownsRow base e size v n xs) (ad : Addr) (c : Nat) :
    (Builtin.append_ #[t, t] ty #[v, .slice (some ad) 0 c]).run P w = .ok v w := by
  have h0 : (loadCells ad 0).run P w = .ok #[] w := rfl
  rcases hown.2 with ⟨rfl, rfl⟩ | ⟨g, cap, cur, rfl, _, _, hnc, _⟩
  · simp [Builtin.append_, run_underlying ht, sizeOf, typeInfo, hi, Builtin.lenOf, Builtin.firstCells, h0]
  · simp [Builtin.append_, run_underlying ht, sizeOf, typeInfo, hi, Builtin.lenOf, Builtin.firstCells, hnc, storeCells, h0]
theorem wpList_append_empty {P : Program} {w : World} {ops : Array Oper} {rest : List Oper} {o : Oper} {a : Act} {Q : Exit → Act → World → Prop} (hgd : o.guard = none) (s x : Operand) (t : TypeId)
    (ho : o.op = .call { callee := .builtin .append, args := #[s, x], argTypes := #[t, t] })
    (base : Nat) (e : TypeId) (i : TypeInfo) (size : Nat) (ht : P.underlying t = some (.slice e)) (hi : P.info? e = some i)
    (v : Value) (n : Nat) (xs : List Value) (hs : a.eval s = v) (hown : w.ownsRow base e size v n xs) (ad : Addr) (c : Nat) (hx : a.eval x = .slice (some ad) 0 c)
    (h : wpList P ops Q rest (a.put o.dst v) w) : wpList P ops Q (o :: rest) a w := by
  refine wpList_plain hgd fun K hK => ?_
  have hrun := run_append_empty (P := P) (w := w) base t o.type e i size ht hi v n xs hown ad c
  unfold Oper.wp
  simp [execOp, ho, resolve, invoke, builtin, hs, hx, hrun, Result.andThen]
  exact hK _ _ h

set_option maxRecDepth 100000 in
theorem wpList_append_all {ops : Array Oper} {rest : List Oper} {o : Oper} {a : Act} {Q : Exit → Act → World → Prop} {W : World} (hgd : o.guard = none) (s x : Operand)
    (ho : o.op = .call { callee := .builtin .append, args := #[s, x], argTypes := #[25, 25] }) (base : Nat) (v : Value) (ks : List Kv) (hs : a.eval s = v) (hown : W.ownsRow base 27 3 v ks.length (kvCells ks))
    (sa : Option Addr) (m c : Nat) (ms : List Kv) (hx : a.eval x = .slice sa m c) (hm : RowAt W sa m ms) (hnil : sa = none → c = 0) (hbig : ks.length + m ≤ 2932031007400) (hbase : base ≤ W.heap.size)
    (h : ∀ v' w', w'.ownsRow base 27 3 v' (ks ++ ms).length (kvCells (ks ++ ms)) → W.grownBy w' v.ownBlock → (v'.ownBlock = v.ownBlock ∨ v'.ownBlock = some W.heap.size) → wpList Tryz.prog ops Q rest (a.put o.dst v') w') : wpList Tryz.prog ops Q (o :: rest) a W := by
  by_cases h0 : sa ≠ none ∧ m = 0
  · obtain ⟨h1, rfl⟩ := h0
    obtain ⟨i0, hi, hz0, hz1, hz2⟩ := info_parts Tryz.info27
    obtain rfl : ms = [] := List.length_eq_zero_iff.1 hm.len.symm
    rcases sa with _ | ad
    · exact absurd rfl h1
    · refine wpList_append_empty hgd s x 25 ho base 27 i0 3 Tryz.underlying25 hi v ks.length (kvCells ks) hs hown ad c hx (h v W (by simpa using hown) ?_ (.inl rfl))
      exact ⟨rfl, rfl, rfl, Nat.le_refl _, fun _ _ _ => rfl⟩
  · exact wpList_append_lst hgd s x ho base v ks hs hown sa m c ms hx hm hnil (fun e => by have : ¬ m = 0 := fun e' => h0 ⟨e, e'⟩; omega) hbig hbase h
end Go.Proofs.YtgcnjpiiofjljaaGreatDoor
/- What the library says of slices.SortFunc, laid at this program. -/
namespace Go.Proofs
open Go.Shelf
def Tryz.sortT_ren : Go.Shelf.Ren := ⟨fun | 6 => 56 | 15 => 75 | 14 => 74 | 28 => 99 | 29 => 100 | 20 => 91 | 21 => 92 | 22 => 93 | 23 => 94 | 24 => 95 | 25 => 96 | 26 => 97 | 27 => 98 | 46 => 111 | 47 => 112 | 48 => 113 | 49 => 114 | 50 => 115 | 57 => 123 | n => n, fun | 22 => 25 | 24 => 27 | 25 => 84 | 3 => 3 | 39 => 106 | 0 => 0 | 53 => 129 | 55 => 55 | 4 => 4 | 46 => 123 | 45 => 122 | 50 => 97 | 5 => 5 | 9 => 9 | 66 => 135 | 70 => 139 | 76 => 144 | 77 => 145 | n => n, fun | n => n⟩
theorem Tryz.sortT : Go.Proofs.SlLaysF0.n6 Tryz.prog Tryz.sortT_ren := {
  mixed := by kernel_rfl
  f6 := ⟨Tryz.f56.name, by decide, Tryz.func56.trans (congrArg some (by kernel_rfl))⟩
  f14 := ⟨Tryz.f74.name, by decide, Tryz.func74.trans (congrArg some (by kernel_rfl))⟩
  f15 := Tryz.func75.trans (congrArg some (by kernel_rfl))
  f20 := ⟨Tryz.f91.name, by decide, Tryz.func91.trans (congrArg some (by kernel_rfl))⟩
  f21 := ⟨Tryz.f92.name, by decide, Tryz.func92.trans (congrArg some (by kernel_rfl))⟩
  f22 := ⟨Tryz.f93.name, by decide, Tryz.func93.trans (congrArg some (by kernel_rfl))⟩
  f23 := ⟨Tryz.f94.name, by decide, Tryz.func94.trans (congrArg some (by kernel_rfl))⟩
  f24 := ⟨Tryz.f95.name, by decide, Tryz.func95.trans (congrArg some (by kernel_rfl))⟩
  f25 := ⟨Tryz.f96.name, by decide, Tryz.func96.trans (congrArg some (by kernel_rfl))⟩
  f26 := ⟨Tryz.f97.name, by decide, Tryz.func97.trans (congrArg some (by kernel_rfl))⟩
  f27 := ⟨Tryz.f98.name, by decide, Tryz.func98.trans (congrArg some (by kernel_rfl))⟩
  f28 := Tryz.func99.trans (congrArg some (by kernel_rfl))
  f29 := Tryz.func100.trans (congrArg some (by kernel_rfl))
  f46 := ⟨Tryz.f111.name, by decide, Tryz.func111.trans (congrArg some (by kernel_rfl))⟩
  f47 := Tryz.func112.trans (congrArg some (by kernel_rfl))
  f48 := Tryz.func113.trans (congrArg some (by kernel_rfl))
  f49 := ⟨Tryz.f114.name, by decide, Tryz.func114.trans (congrArg some (by kernel_rfl))⟩
  f50 := ⟨Tryz.f115.name, by decide, Tryz.func115.trans (congrArg some (by kernel_rfl))⟩
  f57 := ⟨Tryz.f123.name, by decide, Tryz.func123.trans (congrArg some (by kernel_rfl))⟩
  t0 := Tryz.underlying0
  a0 := Tryz.isAgg0
  z0 := Tryz.sizeOf0
  v0 := Tryz.zeroValue0
  t3 := Tryz.underlying3
  a3 := Tryz.isAgg3
  z3 := Tryz.sizeOf3
  v3 := Tryz.zeroValue3
  t4 := Tryz.underlying4
  a4 := Tryz.isAgg4
  z4 := Tryz.sizeOf4
  v4 := Tryz.zeroValue4
  t5 := Tryz.underlying5
  a5 := Tryz.isAgg5
  z5 := Tryz.sizeOf5
  v5 := Tryz.zeroValue5
  t9 := Tryz.underlying9
  a9 := Tryz.isAgg9
  z9 := Tryz.sizeOf9
  v9 := Tryz.zeroValue9
  t22 := Tryz.underlying25
  a22 := Tryz.isAgg25
  z22 := Tryz.sizeOf25
  v22 := Tryz.zeroValue25
  t25 := Tryz.underlying84
  a25 := Tryz.isAgg84
  z25 := Tryz.sizeOf84
  v25 := Tryz.zeroValue84
  t39 := Tryz.underlying106
  a39 := Tryz.isAgg106
  z39 := Tryz.sizeOf106
  v39 := Tryz.zeroValue106
  t45 := Tryz.underlying122
  a45 := Tryz.isAgg122
  z45 := Tryz.sizeOf122
  v45 := Tryz.zeroValue122
  t46 := Tryz.underlying123
  a46 := Tryz.isAgg123
  z46 := Tryz.sizeOf123
  v46 := Tryz.zeroValue123
  t50 := Tryz.underlying97
  a50 := Tryz.isAgg97
  z50 := Tryz.sizeOf97
  v50 := Tryz.zeroValue97
  t53 := Tryz.underlying129
  a53 := Tryz.isAgg129
  z53 := Tryz.sizeOf129
  v53 := Tryz.zeroValue129
  t55 := Tryz.underlying55
  a55 := Tryz.isAgg55
  z55 := Tryz.sizeOf55
  v55 := Tryz.zeroValue55
  t66 := Tryz.underlying135
  a66 := Tryz.isAgg135
  z66 := Tryz.sizeOf135
  v66 := Tryz.zeroValue135
  t70 := Tryz.underlying139
  a70 := Tryz.isAgg139
  z70 := Tryz.sizeOf139
  v70 := Tryz.zeroValue139
  t76 := Tryz.underlying144
  a76 := Tryz.isAgg144
  z76 := Tryz.sizeOf144
  v76 := Tryz.zeroValue144
  t77 := Tryz.underlying145
  a77 := Tryz.isAgg145
  z77 := Tryz.sizeOf145
  v77 := Tryz.zeroValue145 }
end Go.Proofs
/- What slices.SortFunc makes of a row of terms by Compare of package terms: the row in order, all else as it was. -/
namespace Go.Proofs.YtgcnjpiiofjljaaGreatDoor
open Go.RowKit Go.Deep

/-- Only blocks of A have turned. -/
structure Turned (A : Bl) (w w' : World) : Prop where
  os : w'.os = w.os
  tape : w'.tape = w.tape
  output : w'.output = w.output
  size : w.heap.size ≤ w'.heap.size
  block : ∀ k, k < w.heap.size → ¬ A k → w'.heap[k]? = w.heap[k]?
theorem Turned.refl (A : Bl) (w : World) : Turned A w w := ⟨rfl, rfl, rfl, Nat.le_refl _, fun _ _ _ => rfl⟩
theorem Turned.trans {A : Bl} {a b c : World} (h : Turned A a b) (k : Turned A b c) : Turned A a c :=
  ⟨k.os.trans h.os, k.tape.trans h.tape, k.output.trans h.output, Nat.le_trans h.size k.size, fun q hq hA => (k.block q (Nat.lt_of_lt_of_le hq h.size) hA).trans (h.block q hq hA)⟩
theorem Turned.mono {A A' : Bl} {w w' : World} (h : Turned A w w') (hA : ∀ q, q < w.heap.size → A q → A' q) : Turned A' w w' := ⟨h.os, h.tape, h.output, h.size, fun q hq hn => h.block q hq fun ha => hn (hA q hq ha)⟩
theorem Turned.of_below {w w' : World} (h : Below w.heap.size w w') (A : Bl) : Turned A w w' := ⟨h.os, h.tape, h.output, h.size, fun q hq _ => h.block q hq⟩
theorem Turned.below {A : Bl} {B : Nat} {w w' : World} (h : Turned A w w') (hA : ∀ q, A q → B ≤ q) (hB : B ≤ w.heap.size) : Below B w w' := ⟨h.os, h.tape, h.output, h.size, fun q hq => h.block q (by omega) (fun ha => by have := hA q ha; omega)⟩

theorem kvCells_nth : ∀ (ks : List Kv) (i c : Nat) {k : Kv}, ks[i]? = some k → c < 3 → (kvCells ks)[i * 3 + c]? = k.cells[c]?
  | [], _, _, _, h, _ => by simp at h
  | k :: r, 0, c, k', h, hc => by
    simp only [List.getElem?_cons_zero, Option.some.injEq] at h
    subst h
    show (k.cells ++ kvCells r)[0 * 3 + c]? = _
    rw [Nat.zero_mul, Nat.zero_add, List.getElem?_append_left (by simpa [Kv.cells] using hc)]
  | k :: r, i + 1, c, k', h, hc => by
    simp only [List.getElem?_cons_succ] at h
    show (k.cells ++ kvCells r)[(i + 1) * 3 + c]? = _
    rw [List.getElem?_append_right (by simp [Kv.cells]; omega), show (i + 1) * 3 + c - k.cells.length = i * 3 + c by simp [Kv.cells]; omega]
    exact kvCells_nth r i c h hc

abbrev Gd (w : World) (g : Nat) (k : Kv) : Prop := ∃ A : Bl, SepE w A k ∧ ¬ A g
def leafK : Kv := ⟨(⟨#[]⟩, 0), .nil, none, 0⟩
theorem gd_leaf (w : World) (g : Nat) : Gd w g leafK := ⟨fun _ => False, ⟨⟨by decide, Nat.le_refl _, Nat.zero_le _, by simp [leafK, lenF]⟩, .inl rfl⟩, fun h => h⟩
abbrev GdK (w : World) (g : Nat) := { k : Kv // Gd w g k }
def encG {w : World} {g : Nat} (k : GdK w g) : List Value := k.1.cells
def cmpG {w : World} {g : Nat} (x y : GdK w g) : Int := cmpN x.1.tn y.1.tn
theorem swoG {w : World} {g : Nat} : Sort.SWO (ltOf (cmpG (w := w) (g := g))) where
  irrefl x := by
    have := cmpN_anti x.1.tn x.1.tn
    unfold ltOf cmpG
    rw [decide_eq_false_iff_not]
    omega
  trans x y z h1 h2 := by
    unfold ltOf cmpG at *
    rw [decide_eq_true_iff] at *
    exact (cmpN_cons x.1.tn y.1.tn z.1.tn).lt h1 h2
  ntrans x y z h1 h2 := by
    unfold ltOf cmpG at *
    rw [decide_eq_false_iff_not] at *
    have a1 := cmpN_anti x.1.tn y.1.tn
    have a2 := cmpN_anti y.1.tn z.1.tn
    have a3 := cmpN_anti x.1.tn z.1.tn
    have : leN z.1.tn x.1.tn := leN_trans (y := y.1.tn) (by unfold leN; omega) (by unfold leN; omega)
    unfold leN at this
    omega
theorem heap_sortK {α : Type} [Inhabited α] (enc : α → List Value) (w : World) (g m : Nat) (d : Array α) (os : Array Obj) {q : Nat} (hq : q < w.heap.size) :
    (sortWorldK enc 3 w g 0 m d os).heap[q]? = if q = g then (w.heap[q]?).map (Sort.onCells (Sort.putCells id 0 (Sort.flatK enc 3 d))) else w.heap[q]? := by
  unfold sortWorldK
  rw [Sort.heap_grow_old _ _ (by unfold Sort.putRowK; rw [Sort.size_putRow]; exact hq)]
  unfold Sort.putRowK Sort.putRow Sort.mapBlock
  simp only [Array.getElem?_modify, Sort.ahead]
  by_cases e : q = g
  · subst e; simp
  · rw [if_neg e, if_neg (fun h => e h.symm)]

set_option maxRecDepth 100000 in
theorem cmp_lays (w : World) (g n : Nat) [Inhabited (GdK w g)] : CmpLays Tryz.prog 57 #[] (encG (w := w) (g := g)) 3 cmpG g 0 n w := by
  intro m os dk _ x y
  have tm : ∀ k : GdK w g, TmAt (sortWorldK (encG (w := w) (g := g)) 3 w g 0 m dk os) k.1.x k.1.a k.1.c k.1.l := fun k => by
    obtain ⟨k, A, hA, hg⟩ := k
    refine SepTm.tm (SepTm.keep (A := A) (fun q hq hlt => ?_) hA)
    rw [heap_sortK _ _ _ _ _ _ hlt, if_neg (by intro e; subst e; exact hg hq)]
  refine (compare_all _ x.1.x y.1.x x.1.a y.1.a x.1.c y.1.c x.1.l y.1.l _ (Nat.le_refl _) (tm x) (tm y)).mono ?_
  rintro e w' ⟨rfl, os', rfl⟩
  exact ⟨rfl, 0, os', rfl⟩

theorem Tryz.enter50 : ∀ args w, (callFunc 57 args).run Tryz.prog w = .ok (.enter 57 args) w := enters_of Tryz.func57 (by kernel_rfl) rfl

set_option maxRecDepth 100000 in
theorem sort_terms (w : World) (g cap : Nat) (cur : Array Value) (ks : List Kv) (A : Bl) (hg : w.heap[g]? = some (Obj.cells cur 27 (0, 0))) (hc : ∀ (j : Nat) (u : Value), (kvCells ks)[j]? = some u → cur[j]? = some u) (hks : GL SepE w ks A) (hA : ¬ A g) (hn : ks.length < 4611686018427387904) :
    Calls Tryz.prog 56 #[.slice (some ⟨g, 0, none⟩) ks.length cap, .func (.func 57) #[] #[]] w fun e w' => e = .returned (.tuple #[]) ∧ ∃ (ms : List Kv) (cur' : Array Value), List.Perm ms ks ∧ Srt (ms.map Kv.tn) ∧ w'.heap[g]? = some (Obj.cells cur' 27 (0, 0)) ∧ cur'.size = cur.size ∧
      (∀ (j : Nat) (u : Value), (kvCells ms)[j]? = some u → cur'[j]? = some u) ∧ Turned (fun q => q = g) w w' := by
  letI : Inhabited (GdK w g) := ⟨⟨leafK, gd_leaf w g⟩⟩
  have hgd : ∀ k ∈ ks, Gd w g k := fun k hk => by
    obtain ⟨A1, h1, h2⟩ := hks.mem hk
    exact ⟨A1, h2, fun h => hA (h1 g h)⟩
  have hglt : g < w.heap.size := (Array.getElem?_eq_some_iff.1 hg).1
  let d : Array (GdK w g) := (ks.attachWith (Gd w g) hgd).toArray
  have hds : d.size = ks.length := by simp [d]
  have hdl : d.toList.map Subtype.val = ks := by simp [d]
  have cellAt : ∀ (d : Array (GdK w g)) (j : Nat), j < d.size * 3 → (kvCells (d.toList.map Subtype.val))[j]? = some (Sort.flatK encG 3 d)[j]! := fun d j hj => by
    rw [Sort.get_flatK _ _ _ _ hj]
    have hi : j / 3 < d.size := by omega
    have h1 : (d.toList.map Subtype.val)[j / 3]? = some (d[j / 3]!).1 := by
      rw [List.getElem?_map, Array.getElem?_toList, Array.getElem?_eq_getElem hi, getElem!_pos d _ hi]; rfl
    have h2 := kvCells_nth _ (j / 3) (j % 3) h1 (by omega)
    rw [show j / 3 * 3 + j % 3 = j by omega] at h2
    rw [h2]
    have hl : j % 3 < (encG d[j / 3]!).length := by show _ < 3; omega
    rw [getElem!_pos (encG d[j / 3]!) (j % 3) hl]
    exact List.getElem?_eq_getElem hl
  have hH : Sort.HoldsK encG 3 w g 0 d := fun j hj => by
    rw [Sort.size_flatK] at hj
    have h1 := cellAt d j hj
    rw [hdl] at h1
    refine ⟨?_, by simp [World.frozen?, hg]⟩
    rw [Nat.zero_add, cell_of_row w g j cur 27 (0, 0) hg]
    exact hc j _ h1
  have hs := AnyQ.slices_SortFunc Tryz.sortT 3 Tryz.isAgg27 Tryz.sizeOf27 encG (fun _ => rfl) (fun x v hv => kv_one x.1 v hv) cmpG swoG 57 #[] g 0 cap d w Tryz.enter50 (cmp_lays w g d.size) hH hglt (by rw [hds]; exact hn)
  rw [hds] at hs
  refine Calls.mono hs ?_
  rintro e w' ⟨rfl, d', n, os, hp, hso, rfl⟩
  obtain ⟨p1, _, p3⟩ := hp
  have hd's : d'.size = ks.length := p1.trans hds
  have hperm : List.Perm (d'.toList.map Subtype.val) ks := by
    have e1 : (d'.extract 0 ks.length).toList = d'.toList := by rw [← hd's]; simp
    have e2 : (d.extract 0 ks.length).toList = d.toList := by rw [← hds]; simp
    rw [e1, e2] at p3
    have := p3.map Subtype.val
    rwa [hdl] at this
  have hsz : (Sort.putCells id 0 (Sort.flatK encG 3 d') cur).size = cur.size := by simp [Sort.putCells]
  refine ⟨rfl, d'.toList.map Subtype.val, Sort.putCells id 0 (Sort.flatK encG 3 d') cur, hperm, ?_, ?_, hsz, ?_, ?_⟩
  · unfold Srt
    rw [List.pairwise_iff_getElem]
    intro i j hi hj hij
    simp only [List.length_map, Array.length_toList] at hi hj
    have h1 := hso i j (Nat.zero_le _) hij (by omega)
    unfold ltOf cmpG at h1
    rw [decide_eq_false_iff_not, getElem!_pos d' i hi, getElem!_pos d' j hj] at h1
    simp only [List.getElem_map, Array.getElem_toList]
    have := cmpN_anti (d'[i]).1.tn (d'[j]).1.tn
    unfold leN
    omega
  · rw [heap_sortK _ _ _ _ _ _ hglt, if_pos rfl, hg]
    rfl
  · intro j u hu
    have hj : j < d'.size * 3 := by
      rcases Nat.lt_or_ge j (d'.size * 3) with h' | h'
      · exact h'
      · rw [List.getElem?_eq_none (by rw [kvCells_len, List.length_map, Array.length_toList]; exact h')] at hu; cases hu
    have h1 := cellAt d' j hj
    rw [hu] at h1
    have hjc : j < cur.size := by
      obtain ⟨u', hu'⟩ := kvCells_get (ks := ks) (j := j) (by omega)
      have := hc j u' hu'
      exact (Array.getElem?_eq_some_iff.1 this).1
    unfold Sort.putCells
    rw [Array.getElem?_mapIdx, Array.getElem?_eq_getElem hjc, Option.map_some, if_pos ⟨Nat.zero_le _, by rw [Sort.size_flatK]; omega⟩, Nat.sub_zero]
    exact h1.symm
  · refine ⟨rfl, rfl, rfl, ?_, fun q hq hne => ?_⟩
    · unfold sortWorldK Sort.putRowK
      rw [Sort.size_grow, Sort.size_putRow]
      exact Nat.le_add_right _ _
    · rw [heap_sortK _ _ _ _ _ _ hq, if_neg hne]
end Go.Proofs.YtgcnjpiiofjljaaGreatDoor
/- What settle of package canon makes of a loose form. -/
namespace Go.Proofs.YtgcnjpiiofjljaaGreatDoor
open Go.RowKit Go.Deep

theorem LoosE.parts {w : World} {A : Bl} {k : Kv} (h : LoosE w A k) (hn : noName k.x.1 = true) : (k.a = none ∧ k.c = 0 ∧ lenF k.l = 0) ∨ ∃ (g : Nat) (cur : Array Value) (ks : List Kv), k.a = some ⟨g, 0, none⟩ ∧ A g ∧ w.heap[g]? = some (Obj.cells cur 27 (0, 0)) ∧ cur.size = k.c * 3 ∧ ks.map Kv.tn = kidsL k.l ∧
    (∀ (j : Nat) (u : Value), (kvCells ks)[j]? = some u → cur[j]? = some u) ∧ GL SepE w ks (fun q => A q ∧ q ≠ g) := by
  obtain ⟨hs, hr⟩ := h
  rcases hr hn with h1 | ⟨g, cur, h1, h2, h3, h4⟩
  · exact .inl h1
  · refine .inr ?_
    rcases hs.list with e | ⟨g', cur', e1, e2, e3, e4⟩
    · exact ⟨g, cur, [], h1, h2, h3, h4, by rw [e]; rfl, fun j u hu => by simp [kvCells] at hu, trivial⟩
    · rw [h1] at e1
      cases e1
      obtain ⟨ks, k1, k2, k3⟩ := sepKids_list e4
      refine ⟨g, cur, ks, h1, h2, h3, h4, k1, fun j u hu => ?_, k3⟩
      have := k2 j u hu
      rwa [Nat.zero_add, cell_of_row w g j cur 27 (0, 0) h3] at this
theorem LoosE.make {w : World} {A : Bl} {x : ByteArray × Int} {g c : Nat} {cur : Array Value} {ks : List Kv} (hx : x.1.size ≤ maxLen) (hg : A g) (hh : w.heap[g]? = some (Obj.cells cur 27 (0, 0))) (hc : cur.size = c * 3) (hcap : c ≤ maxLen) (hlen : ks.length ≤ c) (hfew : ks.length * 48 ≤ 140737488351232)
    (hcells : ∀ (j : Nat) (u : Value), (kvCells ks)[j]? = some u → cur[j]? = some u) (hks : GL SepE w ks (fun q => A q ∧ q ≠ g)) : LoosE w A ⟨x, mkF (ks.map Kv.tn), some ⟨g, 0, none⟩, c⟩ := by
  have hlm : lenF (mkF (ks.map Kv.tn)) = ks.length := by rw [len_mk, List.length_map]
  refine ⟨⟨⟨hx, by rw [hlm]; exact hlen, hcap, by rw [hlm]; exact hfew⟩, .inr ⟨g, cur, rfl, hg, hh, ?_⟩⟩, fun _ => .inr ⟨g, cur, rfl, hg, hh, hc⟩⟩
  refine sepKids_of _ ks _ 0 (by rw [kids_mk]; rfl) (fun j u hu => ?_) (gl_sepL.1 hks)
  rw [Nat.zero_add, cell_of_row w g j cur 27 (0, 0) hh]
  exact hcells j u hu

theorem sortNil_any (cap : Nat) (w : World) : Calls Tryz.prog 56 #[.slice none 0 cap, .func (.func 57) #[] #[]] w fun e w' => e = .returned (.tuple #[]) ∧ w' = w := AnyF.slices_SortFunc_none Tryz.sortT none cap _ w

set_option maxRecDepth 100000 in
set_option maxHeartbeats 1000000 in
theorem settle_any (S : Option Addr) (n cap : Nat) (l : List Sym) (k : Kv) (A : Bl) (w : World) (hS : SigAt w S n l) (hE : LoosE w A k) :
    Calls Tryz.prog 39 #[.slice S n cap, .agg #[.string k.x.1, .int .i64 k.x.2, .slice k.a (lenF k.l) k.c]] w fun e w' => ∃ F, e = .returned (.agg #[.string k.x.1, .int .i64 k.x.2, .slice k.a (lenF F) k.c]) ∧ lenF F = lenF k.l ∧ SetR (sgOf l) k.tn (k.x, F) ∧ LoosE w' A ⟨k.x, F, k.a, k.c⟩ ∧ Turned A w w' := by
  obtain ⟨⟨nm, s⟩, F, a, c⟩ := k
  have HE : Hid (LoosE w A ⟨(nm, s), F, a, c⟩) := hE
  have HK : Hid (∀ W, Below w.heap.size w W → Calls Tryz.prog 55 #[.slice S n cap, .int .i64 s] W fun e w' => e = .returned (.int .i64 (kindK l s)) ∧ w' = W) := fun W hW => kindAt_any S n cap l s W (hS.below hW)
  have hb2 : Below w.heap.size w ((w.alloc (.cells #[.string nm, .int .i64 s, .slice a (lenF F) c] 27)).alloc (.cells #[.string nm, .int .i64 s, .slice a (lenF F) c] 27)) := ((Below.refl _ w).alloc (Nat.le_refl _) _).alloc (by simp) _
  have HB2 : Hid (Below w.heap.size w ((w.alloc (.cells #[.string nm, .int .i64 s, .slice a (lenF F) c] 27)).alloc (.cells #[.string nm, .int .i64 s, .slice a (lenF F) c] 27))) := hb2
  have HLE : Hid (LoosE ((w.alloc (.cells #[.string nm, .int .i64 s, .slice a (lenF F) c] 27)).alloc (.cells #[.string nm, .int .i64 s, .slice a (lenF F) c] 27)) A ⟨(nm, s), F, a, c⟩) := loosE.keep (fun q _ hq => hb2.block q hq) hE
  have HX : Hid (XBox ((w.alloc (.cells #[.string nm, .int .i64 s, .slice a (lenF F) c] 27)).alloc (.cells #[.string nm, .int .i64 s, .slice a (lenF F) c] 27)) (w.heap.size + 1) (nm, s) (.slice a (lenF F) c)) := by
    have := World.alloc_heap_new (w.alloc (.cells #[.string nm, .int .i64 s, .slice a (lenF F) c] 27)) (.cells #[.string nm, .int .i64 s, .slice a (lenF F) c] 27)
    rw [World.size_alloc] at this
    exact this
  clear hE hS hb2
  cases hn : nm.toList.isEmpty
  · have hj : Hid (jn (sgOf l) ((nm, s), F) = false) := by show _ = _; unfold jn noName; rw [hn]; rfl
    go_enter Tryz.func39, Tryz.ntmps39
    go_wp2
    refine bodyPost_ret (results_cell_row rfl _ _ (w.heap.size + 1) 27 #[.string nm, .int .i64 s, .slice a (lenF F) c] (0, 0) _ rfl HX.out Tryz.underlying27 rfl Tryz.size27) rfl ?_
    exact ⟨F, rfl, rfl, ⟨rfl, by show if jn (sgOf l) ((nm, s), F) = true then _ else _; rw [hj.out]; simp [Kv.tn]⟩, HLE.out, Turned.of_below HB2.out A⟩
  · have hnn : Hid (noName nm = true) := hn
    cases hk : (kindK l s != 1)
    · have hj : Hid (jn (sgOf l) ((nm, s), F) = false) := by
        show _ = _
        have : (sgOf l).joins s = false := (kindK_ok l s).free.1 (by simpa using hk)
        unfold jn
        rw [this]
        simp
      go_enter Tryz.func39, Tryz.ntmps39
      go_wp2_with (go_at_call 55; refine (HK.out _ (((Below.refl _ w).alloc (Nat.le_refl _) _).alloc (by simp) _)).mono ?_; rintro e w2 ⟨rfl, rfl⟩)
      refine bodyPost_ret (results_cell_row rfl _ _ (w.heap.size + 1) 27 #[.string nm, .int .i64 s, .slice a (lenF F) c] (0, 0) _ rfl HX.out Tryz.underlying27 rfl Tryz.size27) rfl ?_
      exact ⟨F, rfl, rfl, ⟨rfl, by show if jn (sgOf l) ((nm, s), F) = true then _ else _; rw [hj.out]; simp [Kv.tn]⟩, HLE.out, Turned.of_below HB2.out A⟩
    · have hj : Hid (jn (sgOf l) ((nm, s), F) = true) := by
        show _ = _
        have : (sgOf l).joins s = true := by
          cases h : (sgOf l).joins s with
          | true => rfl
          | false => have := (kindK_ok l s).free.2 h; simp [this] at hk
        unfold jn
        rw [this, hnn.out]
        rfl
      have HSZ := HE.out.1.sizes
      have HSZ' : Hid (Sizes nm (lenF F) c) := HSZ
      clear HSZ
      rcases HE.out.parts hnn.out with ⟨ha, hc, hl⟩ | ⟨g, cur, ks, ha, hg, hh, hcs, hks, hcells, hgl⟩
      · have ha : a = none := ha
        have hc : c = 0 := hc
        have hl : lenF F = 0 := hl
        have hF := len_nil hl
        subst ha hc hF
        have HN : Hid (∀ W, Calls Tryz.prog 56 #[.slice none 0 0, .func (.func 57) #[] #[]] W fun e w' => e = .returned (.tuple #[]) ∧ w' = W) := fun W => sortNil_any 0 W
        go_enter Tryz.func39, Tryz.ntmps39
        go_wp2_with (first | (go_at_call 55; refine (HK.out _ (((Below.refl _ w).alloc (Nat.le_refl _) _).alloc (by simp) _)).mono ?_; rintro e w2 ⟨rfl, rfl⟩) | (go_at_call 56; refine (HN.out _).mono ?_; rintro e w3 ⟨rfl, rfl⟩))
        refine bodyPost_ret (results_cell_row rfl _ _ (w.heap.size + 1) 27 #[.string nm, .int .i64 s, .slice none 0 0] (0, 0) _ rfl HX.out Tryz.underlying27 rfl Tryz.size27) rfl ?_
        exact ⟨.nil, rfl, rfl, ⟨rfl, by show if jn (sgOf l) ((nm, s), .nil) = true then _ else _; rw [hj.out]; exact ⟨[], rfl, List.Perm.refl _, List.Pairwise.nil⟩⟩, HLE.out, Turned.of_below HB2.out A⟩
      · have ha : a = some ⟨g, 0, none⟩ := ha
        subst ha
        have hkl : ks.length = lenF F := by have := congrArg List.length hks; rwa [List.length_map, kids_len] at this
        have hglt : g < w.heap.size := (Array.getElem?_eq_some_iff.1 hh).1
        obtain ⟨W0, hW0⟩ : ∃ W0, (w.alloc (.cells #[.string nm, .int .i64 s, .slice (some ⟨g, 0, none⟩) (lenF F) c] 27)).alloc (.cells #[.string ⟨#[]⟩, .int .i64 0, .slice none 0 0] 27) = W0 := ⟨_, rfl⟩
        have hb0 : Below w.heap.size w W0 := by rw [← hW0]; exact ((Below.refl _ w).alloc (Nat.le_refl _) _).alloc (by simp) _
        have b1 : XBox W0 w.heap.size (nm, s) (.slice (some ⟨g, 0, none⟩) (lenF F) c) := by rw [← hW0]; exact (Below.heap_alloc _ _ _ (by simp)).trans (World.alloc_heap_new w _)
        have b2 : XBox W0 (w.heap.size + 1) (⟨#[]⟩, 0) (.slice none 0 0) := by
          have := World.alloc_heap_new (w.alloc (.cells #[.string nm, .int .i64 s, .slice (some ⟨g, 0, none⟩) (lenF F) c] 27)) (.cells #[.string ⟨#[]⟩, .int .i64 0, .slice none 0 0] 27)
          rw [World.size_alloc] at this
          rw [← hW0]; exact this
        have hsz : W0.heap.size = w.heap.size + 2 := by rw [← hW0]; simp
        have HSort : Hid (Calls Tryz.prog 56 #[.slice (some ⟨g, 0, none⟩) (lenF F) c, .func (.func 57) #[] #[]] W0 fun e w' => e = .returned (.tuple #[]) ∧ ∃ (ms : List Kv) (cur' : Array Value), List.Perm ms ks ∧ Srt (ms.map Kv.tn) ∧ w'.heap[g]? = some (Obj.cells cur' 27 (0, 0)) ∧ cur'.size = cur.size ∧
            (∀ (j : Nat) (u : Value), (kvCells ms)[j]? = some u → cur'[j]? = some u) ∧ Turned (fun q => q = g) W0 w') := by
          have := sort_terms W0 g c cur ks (fun q => A q ∧ q ≠ g) ((hb0.block g hglt).trans hh) hcells (hgl.keep sepE (fun q _ hq => hb0.block q hq)) (fun h => h.2 rfl) (by have := HSZ'.out.len; have := HSZ'.out.few; omega)
          rwa [hkl] at this
        have HKS : Hid (ks.map Kv.tn = kidsL F) := hks
        have HGL : Hid (GL SepE W0 ks (fun q => (A q ∧ q ≠ g) ∧ q < w.heap.size)) := (hgl.within sepE).keep sepE (fun q _ hq => hb0.block q hq)
        have HG : Hid (A g) := hg
        have HCS : Hid (cur.size = c * 3) := hcs
        have HB0 : Hid (Below w.heap.size w W0) := hb0
        have HW : Hid (W0.heap.size = w.heap.size + 2) := hsz
        have HKL : Hid (ks.length = lenF F) := hkl
        have HGLT : Hid (g < w.heap.size) := hglt
        have z0 := b1.c0; have z1 := b1.c1; have z2 := b1.c2
        have B1 : Hid (XBox W0 w.heap.size (nm, s) (.slice (some ⟨g, 0, none⟩) (lenF F) c)) := b1
        have B2 : Hid (XBox W0 (w.heap.size + 1) (⟨#[]⟩, 0) (.slice none 0 0)) := b2
        clear hks hgl hg hcs hb0 hsz hkl b1 b2 hcells hh HX HLE HB2 hglt
        go_enter Tryz.func39, Tryz.ntmps39
        go_wp2_with (first
          | (go_at_call 55; refine (HK.out _ HB0.out).mono ?_; rintro e w2 ⟨rfl, rfl⟩)
          | (go_at_call 56; clear hW0 z0 z1 z2; refine HSort.out.mono ?_; rintro e w3 ⟨rfl, ms, cur', hp, hsr, hh3, hcs3, hcells3, ht3⟩
             have X1 : XBox w3 w.heap.size (nm, s) (.slice (some ⟨g, 0, none⟩) (lenF F) c) := (ht3.block _ B1.out.lt (by have := HGLT.out; omega)).trans B1.out
             have X2 : XBox w3 (w.heap.size + 1) (⟨#[]⟩, 0) (.slice none 0 0) := (ht3.block _ B2.out.lt (by have := HGLT.out; omega)).trans B2.out
             have y0 := X1.c0; have y1 := X1.c1; have y2 := X1.c2
             have r0 := X2.c0; have r1 := X2.c1; have r2 := X2.c2
             have g0 := X2.f (k := 0); have g1 := X2.f (k := 1); have g2 := X2.f (k := 2)
             have HX2 : Hid (XBox w3 (w.heap.size + 1) (⟨#[]⟩, 0) (.slice none 0 0)) := X2
             have HP : Hid (List.Perm ms ks) := hp
             have HSR : Hid (Srt (ms.map Kv.tn)) := hsr
             have HH3 : Hid (w3.heap[g]? = some (Obj.cells cur' 27 (0, 0))) := hh3
             have HCS3 : Hid (cur'.size = cur.size) := hcs3
             have HCE3 : Hid (∀ (j : Nat) (u : Value), (kvCells ms)[j]? = some u → cur'[j]? = some u) := hcells3
             have HT3 : Hid (Turned (fun q => q = g) _ w3) := ht3
             clear hp hsr hh3 hcs3 hcells3 ht3 X1 X2))
        refine bodyPost_ret (results_cell_row rfl _ _ (w.heap.size + 1) 27 #[.string nm, .int .i64 s, .slice (some ⟨g, 0, none⟩) (lenF F) c] (0, 0) _ rfl (HX2.out.all (x := (nm, s)) _) Tryz.underlying27 rfl Tryz.size27) rfl ?_
        have hml : ms.length = lenF F := HP.out.length_eq.trans HKL.out
        have hlm : lenF (mkF (ms.map Kv.tn)) = lenF F := by rw [len_mk, List.length_map, hml]
        refine ⟨mkF (ms.map Kv.tn), by rw [hlm], hlm, ⟨rfl, ?_⟩, ?_, ?_⟩
        · show if jn (sgOf l) ((nm, s), F) = true then _ else _
          rw [hj.out]
          exact ⟨ms.map Kv.tn, rfl, by show List.Perm (ms.map Kv.tn) (kidsL F); rw [← HKS.out]; exact HP.out.map _, HSR.out⟩
        · have far : ∀ q, q < w.heap.size → (((w3.setCell ⟨w.heap.size + 1, 0, none⟩ (.string nm)).setCell ⟨w.heap.size + 1, 1, none⟩ (.int .i64 s)).setCell ⟨w.heap.size + 1, 2, none⟩ (.slice (some ⟨g, 0, none⟩) (lenF F) c)).heap[q]? = w3.heap[q]? := fun q hq => sets_far (by omega) _ _ _
          have hW := HW.out
          have h3 : GL SepE w3 ms (fun q => (A q ∧ q ≠ g) ∧ q < w.heap.size) := (HGL.out.perm HP.out.symm).keep sepE (fun q hq hlt => HT3.out.block q hlt hq.1.2)
          refine LoosE.make HSZ'.out.name HG.out ((far g HGLT.out).trans HH3.out) (HCS3.out.trans HCS.out) HSZ'.out.cap (by rw [hml]; exact HSZ'.out.len) (by rw [hml]; exact HSZ'.out.few) HCE3.out ?_
          exact (h3.keep sepE (fun q hq hlt => far q hq.2)).mono (fun q hq => hq.1)
        · have hW := HW.out
          have hs3 := HT3.out.size
          have hs0 := HB0.out.size
          refine ⟨HT3.out.os.trans HB0.out.os, HT3.out.tape.trans HB0.out.tape, HT3.out.output.trans HB0.out.output, by simp; omega, fun q hq hna => ?_⟩
          refine (sets_far (by omega) _ _ _).trans ((HT3.out.block q (by omega) (fun e => hna (by rw [e]; exact HG.out))).trans (HB0.out.block q hq))
end Go.Proofs.YtgcnjpiiofjljaaGreatDoor
