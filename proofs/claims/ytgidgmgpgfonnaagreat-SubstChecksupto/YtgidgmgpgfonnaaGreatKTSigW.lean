import Derived.Test.YtgidgmgpgfonnaaGreatKSVarW
/- What takes, checkVar and checkNode of package terms answer. -/
namespace Go.Proofs.YtgidgmgpgfonnaaGreat
open Go.RowKit Go.Deep

def chk (S : List Sym) (x : ByteArray × Int) (l : Fo) : Int := if 40 < nodesF l + 1 then 34 else errT S x l
set_option maxHeartbeats 1000000 in
theorem checkVar_any (x : ByteArray × Int) (a : Option Addr) (n c : Nat) (w : World) (hs : x.1.size ≤ maxLen) :
    Calls Tryz.prog 101 #[.agg #[.string x.1, .int .i64 x.2, .slice a n c]] w fun e w' => e = .returned (.int .i64 (varErr x n)) ∧ Below w.heap.size w w' := by
  have hb1 : Hid (Below w.heap.size w (w.alloc (.cells #[.string x.1, .int .i64 x.2, .slice a n c] 27))) := (Below.refl _ w).alloc (Nat.le_refl _) _
  have bx := TBox.new w x a n c
  have hv := svar_any x.1 (w.alloc (.cells #[.string x.1, .int .i64 x.2, .slice a n c] 27)) hs
  go_enter Tryz.func101, Tryz.ntmps101
  go_wp2_with fail
  refine hv.mono ?_
  rintro e w2 ⟨rfl, hb2⟩
  have bx2 := bx.below hb2
  have c1 := bx2.c1
  have c2 := bx2.c2
  have HB : Hid (Below w.heap.size w w2) := hb1.out.trans (hb2.mono hb1.out.size)
  have hE : varErr x n = if varB x.1 = true ∧ x.2 = 0 ∧ n = 0 then 0 else 31 := rfl
  clear hv bx bx2 hb2
  cases h1 : varB x.1
  · rw [h1] at hE
    go_wp2
    go_ret
    exact ⟨by rw [hE]; simp, HB.out⟩
  · rw [h1] at hE
    cases h2 : (x.2 != 0)
    · have h2' : x.2 = 0 := by simpa using h2
      by_cases h3 : 0 < n
      · go_wp2
        go_ret
        exact ⟨by rw [hE, if_neg (by omega)]; rfl, HB.out⟩
      · go_wp2
        go_ret
        exact ⟨by rw [hE, if_pos (by simp; omega)]; rfl, HB.out⟩
    · have h2' : x.2 ≠ 0 := by simpa using h2
      go_wp2
      go_ret
      exact ⟨by rw [hE, if_neg (by simp; omega)]; rfl, HB.out⟩

set_option maxHeartbeats 1000000 in
theorem takes_any (s : Sym) (n : Nat) (w : World) : Calls Tryz.prog 102 #[.agg #[.string s.name, .int .i64 s.kind, .int .i64 s.arity, .string s.unit], .int .i64 n] w fun e w' => e = .returned (.bool (takesB s n)) ∧ Below w.heap.size w w' := by
  have hb1 : Hid (Below w.heap.size w (w.alloc (.cells #[.string s.name, .int .i64 s.kind, .int .i64 s.arity, .string s.unit] 69))) := (Below.refl _ w).alloc (Nat.le_refl _) _
  have hE : takesB s n = if s.kind = 1 then (n : Int) == s.arity else decide (2 ≤ n) := rfl
  cases h1 : (s.kind == 1)
  · rw [if_neg (by simpa using h1)] at hE
    go_enter Tryz.func102, Tryz.ntmps102
    go_wp2
    go_ret
    exact ⟨by rw [hE]; simp; omega, hb1.out⟩
  · rw [if_pos (by simpa using h1)] at hE
    go_enter Tryz.func102, Tryz.ntmps102
    go_wp2
    go_ret
    exact ⟨by rw [hE]; simp, hb1.out⟩

set_option maxRecDepth 100000 in
set_option maxHeartbeats 1000000 in
theorem checkNode_any (S : List Sym) (sa : Option Addr) (sn sc : Nat) (x : ByteArray × Int) (a : Option Addr) (n c : Nat) (w : World) (hS : SigAt w sa sn S) (hs : x.1.size ≤ maxLen) :
    Calls Tryz.prog 85 #[.slice sa sn sc, .agg #[.string x.1, .int .i64 x.2, .slice a n c]] w fun e w' => e = .returned (.int .i64 (nodeErr S x n)) ∧ Below w.heap.size w w' := by
  have hb1 : Hid (Below w.heap.size w (w.alloc (.cells #[.string x.1, .int .i64 x.2, .slice a n c] 27))) := (Below.refl _ w).alloc (Nat.le_refl _) _
  have hlen := hS.len
  have hsm := hS.small
  have HS : Hid (SigAt w sa sn S) := hS
  unfold maxLen at hsm
  clear hS
  cases hx : x.1.toList.isEmpty
  · have hE : Hid (nodeErr S x n = varErr x n) := by show _ = _; unfold nodeErr noName; rw [hx]; rfl
    have hv := checkVar_any x a n c (w.alloc (.cells #[.string x.1, .int .i64 x.2, .slice a n c] 27)) hs
    go_enter Tryz.func85, Tryz.ntmps85
    go_wp2_with fail
    refine hv.mono ?_
    rintro e w2 ⟨rfl, hb2⟩
    go_wp2
    go_ret
    exact ⟨by rw [hE.out]; rfl, hb1.out.trans (hb2.mono hb1.out.size)⟩
  · by_cases h0 : x.2 < 0
    · have hE : Hid (nodeErr S x n = 32) := nodeErr_out hx (.inl h0)
      go_enter Tryz.func85, Tryz.ntmps85
      go_wp2
      go_ret
      exact ⟨by rw [hE.out]; rfl, hb1.out⟩
    · by_cases h1 : (sn : Int) ≤ x.2
      · have hE : Hid (nodeErr S x n = 32) := nodeErr_out hx (.inr (by omega))
        go_enter Tryz.func85, Tryz.ntmps85
        go_wp2
        go_ret
        exact ⟨by rw [hE.out]; rfl, hb1.out⟩
      · have hlt : x.2.toNat < S.length := by omega
        have hE : Hid (nodeErr S x n = if takesB S[x.2.toNat] n = true then 0 else 33) := nodeErr_in hx (by omega) hlt
        obtain ⟨b, off, rfl, sy⟩ := HS.out.cells _ hlt
        have sy' := sy.below hb1.out
        have hk0 : (0 : Int) ≤ x.2 := by omega
        have hkn : x.2 < (sn : Int) := by omega
        have bx := TBox.new w x a n c
        have hne := later_some (w.alloc (.cells #[.string x.1, .int .i64 x.2, .slice a n c] 27))
        have d1 := later_cell bx.c1
        have d2 := later_cell bx.c2
        have s0 := later_cell sy'.name; have s1 := later_cell sy'.kind; have s2 := later_cell sy'.arity; have s3 := later_cell sy'.unit
        clear sy sy' bx HS hlen
        obtain ⟨s, hsd⟩ : ∃ s, S[x.2.toNat] = s := ⟨_, rfl⟩
        rw [hsd] at s0 s1 s2 s3 hE
        clear hsd
        go_enter Tryz.func85, Tryz.ntmps85
        go_wp2_with fail
        refine wp_region_later (by kernel_rfl) (by kernel_rfl) ?_
        repeat (go_big_quiet_step ((refine calls_later (takes_any s n _))))
        refine wpQuiet_nil ?_
        intro _ hw'
        obtain ⟨b2, hw''⟩ := hw'
        subst hw''
        have HB2 : Hid (Below w.heap.size w b2.now) := hb1.out.trans (b2.below.mono hb1.out.size)
        clear d1 d2 s0 s1 s2 s3
        cases ht : takesB s n
        · rw [ht] at hE
          go_wp2
          go_ret
          exact ⟨by rw [hE.out]; rfl, HB2.out⟩
        · rw [ht] at hE
          go_wp2
          go_ret
          exact ⟨by rw [hE.out]; rfl, HB2.out⟩
end Go.Proofs.YtgidgmgpgfonnaaGreat
