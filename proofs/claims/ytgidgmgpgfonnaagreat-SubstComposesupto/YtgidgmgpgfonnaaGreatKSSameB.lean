import Derived.Test.YtgidgmgpgfonnaaGreatKSLawQ
/- What Same of binds answers, the program's and the document's. -/
namespace Go.Proofs.YtgidgmgpgfonnaaGreat
open Go.RowKit Go.Deep

/-- Written alike. -/
def same1 (x y : Bn) : Bool := (x.1.toList == y.1.toList) && (cmpN x.2 y.2 == 0)
def sameA : List Bn → List Bn → Bool
  | [], [] => true
  | x :: r, y :: s => same1 x y && sameA r s
  | _, _ => false
theorem sameA_len : ∀ {a b : List Bn}, a.length ≠ b.length → sameA a b = false
  | [], [], h => absurd rfl h
  | [], _ :: _, _ => rfl
  | _ :: _, [], _ => rfl
  | x :: r, y :: s, h => by
    unfold sameA
    rw [sameA_len (by simpa using h), Bool.and_false]
theorem sameA_self : ∀ a : List Bn, sameA a a = true
  | [] => rfl
  | x :: r => by
    unfold sameA same1
    have h : cmpN x.2 x.2 = 0 := by have := cmpN_anti x.2 x.2; omega
    rw [sameA_self r, h]
    simp
theorem sameA_step {a b : List Bn} {j : Nat} (ha : j < a.length) (hb : j < b.length) : sameA (a.drop j) (b.drop j) = (same1 a[j] b[j] && sameA (a.drop (j + 1)) (b.drop (j + 1))) := by
  rw [List.drop_eq_getElem_cons ha, List.drop_eq_getElem_cons hb]
  rfl
set_option maxRecDepth 100000 in
set_option maxHeartbeats 2000000 in
/-- Same of two terms. -/
theorem tsame_any (x y : ByteArray × Int) (l m : Fo) (a b : Option Addr) (c d : Nat) (w : World) (hS : TmAt w x a c l) (hT : TmAt w y b d m) :
    Calls Tryz.prog 67 #[.agg #[.string x.1, .int .i64 x.2, .slice a (lenF l) c], .agg #[.string y.1, .int .i64 y.2, .slice b (lenF m) d]] w fun e w' => e = .returned (.bool (cmpN (x, l) (y, m) == 0)) ∧ Below w.heap.size w w' := by
  have PA := hid (Pair.new w x a (lenF l) c y b (lenF m) d)
  have HC := hid (compare_all (nodesF l) x y a b c d l m _ (Nat.le_refl _) (hS.below PA.out.low) (hT.below PA.out.low))
  have t0 := PA.out.l.c0; have t1 := PA.out.l.c1; have t2 := PA.out.l.c2
  have r0 := PA.out.r.c0; have r1 := PA.out.r.c1; have r2 := PA.out.r.c2
  obtain ⟨cv, hcv⟩ : ∃ cv, cmp1 x y (lenF l) (lenF m) (cmpF l m) = cv := ⟨_, rfl⟩
  have hcv' : cmpN (x, l) (y, m) = cv := hcv
  rw [hcv] at HC
  rw [hcv']
  clear hS hT hcv hcv'
  go_enter Tryz.func67, Tryz.ntmps67
  go_wp2_with fail
  refine HC.out.mono ?_
  rintro e w1 ⟨rfl, hg1⟩
  have HL := hid (PA.out.low.trans (hg1.below.mono PA.out.low.size))
  clear hg1 HC
  go_wp2_with fail
  go_ret
  exact ⟨rfl, HL.out⟩
end Go.Proofs.YtgidgmgpgfonnaaGreat
