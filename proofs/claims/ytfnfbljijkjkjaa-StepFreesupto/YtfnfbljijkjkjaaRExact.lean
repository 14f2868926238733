/- What the document's Exact answers of any two terms. -/
import Derived.Test.YtfnfbljijkjkjaaTSpoil
import Derived.Test.YtfnfbljijkjkjaaRCanon
namespace Go.Proofs.Ytfnfbljijkjkjaa
open Go.RowKit Go.Deep

/-- Alike in every field. -/
def exF : Fo → Fo → Bool
  | .nil, _ => true
  | .node _ _ _ _ _, .nil => true
  | .node _ _ x l r, .node _ _ y m s => ((x.1.toList == y.1.toList) && (x.2 == y.2) && (lenF l == lenF m) && exF l m) && exF r s
def exN (x y : ByteArray × Int) (l m : Fo) : Bool := (x.1.toList == y.1.toList) && (x.2 == y.2) && (lenF l == lenF m) && exF l m
def RExactOk (k : Nat) : Prop := ∀ (x y : ByteArray × Int) (l m : Fo) (a b : Option Addr) (c d : Nat) (w : World), nodesF l ≤ k → TmAt w x a c l → TmAt w y b d m →
  Calls Try.prog 25 #[.agg #[.string x.1, .int .i64 x.2, .slice a (lenF l) c], .agg #[.string y.1, .int .i64 y.2, .slice b (lenF m) d]] w fun e w' => e = .returned (.bool (exN x y l m)) ∧ Below w.heap.size w w'

set_option maxRecDepth 100000 in
set_option maxHeartbeats 2000000 in
theorem rexact_all : ∀ k, RExactOk k := by
  intro k
  induction k using Nat.strongRecOn with
  | _ k ih =>
    intro x y l m a b c d w hk hS hT
    have HS : Hid (TmAt w x a c l) := hS
    have HT : Hid (TmAt w y b d m) := hT
    have IH : Hid (∀ j, j < k → RExactOk j) := ih
    have PA : Hid (Pair w x a (lenF l) c y b (lenF m) d ((w.alloc (.cells #[.string x.1, .int .i64 x.2, .slice a (lenF l) c] 26)).alloc (.cells #[.string y.1, .int .i64 y.2, .slice b (lenF m) d] 26))) := Pair.new _ _ _ _ _ _ _ _ _
    have hn : lenF l ≤ 9223372036854775807 := by have := hS.sizes.len; have := hS.sizes.cap; unfold maxLen at *; omega
    have hn2 : lenF m ≤ 9223372036854775807 := by have := hT.sizes.len; have := hT.sizes.cap; unfold maxLen at *; omega
    clear hS hT ih
    obtain ⟨xn, xs⟩ := x
    obtain ⟨yn, ys⟩ := y
    cases h1 : (xn.toList == yn.toList)
    · have e : Hid (exN (xn, xs) (yn, ys) l m = false) := by show _ = _; unfold exN; rw [h1]; rfl
      have hd : ¬ (xn.toList = yn.toList) := by simpa using h1
      go_enter Try.func25, Try.ntmps25
      go_wp2
      go_ret
      exact ⟨by rw [e.out]; rfl, PA.out.low⟩
    · cases h2 : (xs == ys)
      · have e : Hid (exN (xn, xs) (yn, ys) l m = false) := by show _ = _; unfold exN; rw [h1, h2]; rfl
        have h2' : (xs != ys) = true := by simpa using h2
        go_enter Try.func25, Try.ntmps25
        go_wp2
        go_ret
        exact ⟨by rw [e.out]; rfl, PA.out.low⟩
      · obtain rfl : xs = ys := by simpa using h2
        cases h3 : (lenF l == lenF m)
        · have e : Hid (exN (xn, xs) (yn, xs) l m = false) := by show _ = _; unfold exN; rw [h3]; simp
          have h3' : ((lenF l : Int) != (lenF m : Int)) = true := by simp at h3 ⊢; omega
          clear h2 h3
          go_enter Try.func25, Try.ntmps25
          go_wp2
          go_ret
          exact ⟨by rw [e.out]; rfl, PA.out.low⟩
        · have e : Hid (exN (xn, xs) (yn, xs) l m = exF l m) := by show _ = _; unfold exN; rw [h1, h2, h3]; rfl
          have h3' : lenF m = lenF l := by simp at h3; omega
          have HLen : Hid (lenF m = lenF l) := h3'
          rw [h3'] at PA
          dsimp only
          rw [h3']
          clear h2 h3 h3' hn2
          go_enter Try.func25, Try.ntmps25
          go_wp2
          go_loopw [5, 6] (fun i _ wr => ∃ j : Nat, j ≤ lenF l ∧ i = .int .i64 j ∧ Pair w (xn, xs) a (lenF l) c (yn, xs) b (lenF l) d wr ∧ exF (dropF j l) (dropF j m) = exF l m) (fun i _ _ => lenF l - (intOf i).toNat)
          case atStart => exact ⟨0, Nat.zero_le _, rfl, PA.out, by rw [drop_zero, drop_zero]⟩
          case round =>
            obtain ⟨j, hj, rfl, hP, hex⟩ := hrel
            have HX : Hid (exF (dropF j l) (dropF j m) = exF l m) := hex
            clear hex
            have t2 := hP.l.c2
            by_cases hlt : j < lenF l
            · obtain ⟨b1, o1, rfl, hk1⟩ := HS.out.args.get (by omega)
              obtain ⟨bb, oo, rfl, hkk⟩ := HT.out.args.get (by have := HLen.out; omega)
              obtain ⟨z, a1, c1, l1, kd⟩ := hk1.kid (k := j) hlt
              obtain ⟨z', a2, c2, l2, kd2⟩ := hkk.kid (k := j) (by have := HLen.out; omega)
              have kd' := kd.below hP.low
              have kd2' := kd2.below hP.low
              have HP : Hid (Pair w (xn, xs) (some ⟨b1, o1, none⟩) (lenF l) c (yn, xs) (some ⟨bb, oo, none⟩) (lenF l) d wr) := hP
              have HX2 : Hid (exF l m = (exN z z' l1 l2 && exF (dropF (j + 1) l) (dropF (j + 1) m))) := by
                obtain ⟨B1, O1, s1⟩ := kd.split
                obtain ⟨B2, O2, s2⟩ := kd2.split
                show _ = _
                rw [← HX.out, s1, s2]
                rfl
              obtain ⟨ev, hev⟩ : ∃ ev, exN z z' l1 l2 = ev := ⟨_, rfl⟩
              have hC : Hid (∀ w', Below wr.heap.size wr w' → Calls Try.prog 25 #[.agg #[.string z.1, .int .i64 z.2, .slice a1 (lenF l1) c1], .agg #[.string z'.1, .int .i64 z'.2, .slice a2 (lenF l2) c2]] w' fun e w'' => e = .returned (.bool ev) ∧ Below w'.heap.size w' w'') := fun w' hb => by
                have := IH.out (nodesF l1) (by have := kd.less; omega) z z' l1 l2 a1 a2 c1 c2 w' (Nat.le_refl _) (kd'.at_.below hb) (kd2'.at_.below hb)
                rw [hev] at this
                exact this
              rw [hev] at HX2
              have hne := later_some wr
              have d0 := later_cell hP.l.c2
              have d1 := later_cell hP.r.c2
              have p0 := later_cell kd'.name; have p1 := later_cell kd'.sym; have p2 := later_cell kd'.list
              have q0 := later_cell kd2'.name; have q1 := later_cell kd2'.sym; have q2 := later_cell kd2'.list
              have hk0 : (0 : Int) ≤ (j : Int) := by omega
              have hkn : (j : Int) < (lenF l : Int) := by omega
              clear kd kd2 kd' kd2' hk1 hkk hP hev
              go_wp2_with fail
              refine wp_region_later (by kernel_rfl) (by kernel_rfl) ?_
              repeat (go_big_quiet_step ((refine calls_later (hC.out _ ?_); exact Later.below _)))
              refine wpQuiet_nil ?_
              intro _ hw'
              obtain ⟨b2, hw''⟩ := hw'
              subst hw''
              have HP2 : Hid (Pair w (xn, xs) (some ⟨b1, o1, none⟩) (lenF l) c (yn, xs) (some ⟨bb, oo, none⟩) (lenF l) d b2.now) := HP.out.below b2.below
              clear d0 d1 p0 p1 p2 q0 q1 q2 t2
              cases ev with
              | true =>
                go_wp2
                go_roundw
                case rel => exact ⟨j + 1, by omega, by go_num, HP2.out, by rw [HX2.out]; simp⟩
                case measure => simp [intOf]; omega
              | false =>
                go_wp2
                go_ret
                exact ⟨by rw [e.out, HX2.out]; rfl, HP2.out.low⟩
            · obtain rfl : j = lenF l := by omega
              have hX3 : Hid (exF l m = true) := by show _ = _; rw [← HX.out, drop_end]; rfl
              go_wp2
              go_ret
              exact ⟨by rw [e.out, hX3.out]; rfl, hP.low⟩
set_option maxRecDepth 100000 in
theorem rexact_any (x y : Tn) (a b : Option Addr) (c d : Nat) (w : World) (hS : TmAt w x.1 a c x.2) (hT : TmAt w y.1 b d y.2) :
    Calls Try.prog 25 #[.agg #[.string x.1.1, .int .i64 x.1.2, .slice a (lenF x.2) c], .agg #[.string y.1.1, .int .i64 y.1.2, .slice b (lenF y.2) d]] w fun e w' => e = .returned (.bool (exN x.1 y.1 x.2 y.2)) ∧ Below w.heap.size w w' :=
  rexact_all _ x.1 y.1 x.2 y.2 a b c d w (Nat.le_refl _) hS hT
end Go.Proofs.Ytfnfbljijkjkjaa
