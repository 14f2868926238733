/- What the document's Check answers of any term by any signature. -/
import Derived.Test.YtgcnjpiiofjljaaGreatDoorTSig
namespace Go.Proofs.YtgcnjpiiofjljaaGreatDoor
open Go.RowKit Go.Deep

/-- What is wrong in a list of terms: of the first node at which something is. -/
def errF (S : List Sym) : Fo → Int
  | .nil => 0
  | .node _ _ x l r => thenC (thenC (nodeErr S x (lenF l)) (errF S l)) (errF S r)
def errT (S : List Sym) (x : ByteArray × Int) (l : Fo) : Int := thenC (nodeErr S x (lenF l)) (errF S l)
/-- What is left of most nodes; below zero, if there are more. -/
def ovF : Fo → Int → Int
  | .nil, m => m
  | .node _ _ _ l r, m => if m < 0 then m else ovF r (ovF l (m - 1))
theorem ov_neg : ∀ (F : Fo) (m : Int), m < 0 → ovF F m = m
  | .nil, _, _ => rfl
  | .node _ _ _ _ _, m, h => by rw [ovF, if_pos h]
theorem ov_is : ∀ (F : Fo) (m : Int), 0 ≤ m → ovF F m = if (nodesF F : Int) ≤ m then m - nodesF F else -1
  | .nil, m, h => by simp [ovF, nodesF, h]
  | .node _ _ x l r, m, h => by
    show _ = if ((nodesF l + nodesF r + 1 : Nat) : Int) ≤ m then m - ((nodesF l + nodesF r + 1 : Nat) : Int) else -1
    rw [ovF, if_neg (by omega)]
    by_cases h1 : m = 0
    · subst h1
      rw [ov_neg l _ (by omega), ov_neg r _ (by omega), if_neg (by omega)]; rfl
    · rw [ov_is l (m - 1) (by omega)]
      by_cases h2 : (nodesF l : Int) ≤ m - 1
      · rw [if_pos h2, ov_is r _ (by omega)]
        by_cases h3 : (nodesF r : Int) ≤ m - 1 - nodesF l
        · rw [if_pos h3, if_pos (by omega)]; omega
        · rw [if_neg h3, if_neg (by omega)]
      · rw [if_neg h2, ov_neg r _ (by omega), if_neg (by omega)]

set_option maxHeartbeats 1000000 in
theorem node_any (S : List Sym) (sa : Option Addr) (sn sc : Nat) (x : ByteArray × Int) (a : Option Addr) (n c : Nat) (w : World) (hS : SigAt w sa sn S) (hs : x.1.size ≤ maxLen) :
    Calls Tryz.prog 82 #[.slice sa sn sc, .agg #[.string x.1, .int .i64 x.2, .slice a n c]] w fun e w' => e = .returned (.int .i64 (nodeErr S x n)) ∧ Below w.heap.size w w' := by
  have hb1 : Hid (Below w.heap.size w (w.alloc (.cells #[.string x.1, .int .i64 x.2, .slice a n c] 27))) := (Below.refl _ w).alloc (Nat.le_refl _) _
  have hlen := hS.len
  have hsm := hS.small
  have HS : Hid (SigAt w sa sn S) := hS
  unfold maxLen at hsm
  clear hS
  cases hx : x.1.toList.isEmpty
  · have hE : Hid (nodeErr S x n = varErr x n) := by show _ = _; unfold nodeErr noName; rw [hx]; rfl
    have hE2 : varErr x n = if varB x.1 = true ∧ x.2 = 0 ∧ n = 0 then 0 else 31 := rfl
    have bx := TBox.new w x a n c
    have hv := rvar_any x.1 (w.alloc (.cells #[.string x.1, .int .i64 x.2, .slice a n c] 27)) hs
    go_enter Tryz.func82, Tryz.ntmps82
    go_wp2_with fail
    refine hv.mono ?_
    rintro e w2 ⟨rfl, hw2⟩
    have HB : Hid (Below w.heap.size w w2) := by first | (rw [hw2]; exact hb1.out) | exact hb1.out.trans (hw2.mono hb1.out.size)
    have bx2 : TBox w2 w.heap.size x a n c := by first | (rw [hw2]; exact bx) | exact bx.below hw2
    have c1 := bx2.c1
    have c2 := bx2.c2
    clear hv bx bx2 hw2
    cases h1 : varB x.1
    · rw [h1] at hE2
      go_wp2
      go_ret
      exact ⟨by rw [hE.out, hE2]; simp, HB.out⟩
    · rw [h1] at hE2
      cases h2 : (x.2 != 0)
      · have h2' : x.2 = 0 := by simpa using h2
        by_cases h3 : 0 < n
        · go_wp2
          go_ret
          exact ⟨by rw [hE.out, hE2, if_neg (by omega)]; rfl, HB.out⟩
        · go_wp2
          go_ret
          exact ⟨by rw [hE.out, hE2, if_pos (by simp; omega)]; rfl, HB.out⟩
      · have h2' : x.2 ≠ 0 := by simpa using h2
        go_wp2
        go_ret
        exact ⟨by rw [hE.out, hE2, if_neg (by simp; omega)]; rfl, HB.out⟩
  · by_cases h0 : x.2 < 0
    · have hE : Hid (nodeErr S x n = 32) := nodeErr_out hx (.inl h0)
      go_enter Tryz.func82, Tryz.ntmps82
      go_wp2
      go_ret
      exact ⟨by rw [hE.out]; rfl, hb1.out⟩
    · by_cases h1 : (sn : Int) ≤ x.2
      · have hE : Hid (nodeErr S x n = 32) := nodeErr_out hx (.inr (by omega))
        go_enter Tryz.func82, Tryz.ntmps82
        go_wp2
        go_ret
        exact ⟨by rw [hE.out]; rfl, hb1.out⟩
      · have hlt : x.2.toNat < S.length := by omega
        have hE : Hid (nodeErr S x n = if takesB S[x.2.toNat] n = true then 0 else 33) := nodeErr_in hx (by omega) hlt
        obtain ⟨b, off, rfl, sy⟩ := HS.out.cells _ hlt
        have sy' := sy.below hb1.out
        have hk0 : (0 : Int) ≤ x.2 := by omega
        have hkn : x.2 < (sn : Int) := by omega
        have s0 := sy'.name; have s1 := sy'.kind; have s2 := sy'.arity; have s3 := sy'.unit
        clear sy sy' HS hlen
        obtain ⟨s, hsd⟩ : ∃ s, S[x.2.toNat] = s := ⟨_, rfl⟩
        rw [hsd] at s0 s1 s2 s3 hE
        clear hsd
        have hT : takesB s n = if s.kind = 1 then (n : Int) == s.arity else decide (2 ≤ n) := rfl
        have hb2 : Hid (Below w.heap.size w ((w.alloc (.cells #[.string x.1, .int .i64 x.2, .slice a n c] 27)).alloc (.cells #[.string s.name, .int .i64 s.kind, .int .i64 s.arity, .string s.unit] 73))) := hb1.out.alloc hb1.out.size _
        cases hk : (s.kind == 1)
        · have hk2 : (s.kind != 1) = true := by simpa using hk
          rw [if_neg (by simpa using hk)] at hT
          by_cases h2 : n < 2
          · rw [show decide (2 ≤ n) = false by simp; omega] at hT
            rw [hT] at hE
            go_enter Tryz.func82, Tryz.ntmps82
            go_wp2
            go_ret
            exact ⟨by rw [hE.out]; rfl, hb2.out⟩
          · rw [show decide (2 ≤ n) = true by simp; omega] at hT
            rw [hT] at hE
            go_enter Tryz.func82, Tryz.ntmps82
            go_wp2
            go_ret
            exact ⟨by rw [hE.out]; rfl, hb2.out⟩
        · have hk2 : (s.kind != 1) = false := by simpa using hk
          rw [if_pos (by simpa using hk)] at hT
          cases ha : ((n : Int) == s.arity)
          · rw [ha] at hT
            rw [hT] at hE
            have ha' : ((n : Int) != s.arity) = true := by simpa using ha
            go_enter Tryz.func82, Tryz.ntmps82
            go_wp2
            go_ret
            exact ⟨by rw [hE.out]; rfl, hb2.out⟩
          · rw [ha] at hT
            rw [hT] at hE
            have ha' : ((n : Int) != s.arity) = false := by simpa using ha
            go_enter Tryz.func82, Tryz.ntmps82
            go_wp2
            go_ret
            exact ⟨by rw [hE.out]; rfl, hb2.out⟩
end Go.Proofs.YtgcnjpiiofjljaaGreatDoor
