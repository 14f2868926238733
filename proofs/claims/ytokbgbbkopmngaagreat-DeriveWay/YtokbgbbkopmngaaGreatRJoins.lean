/- What the document's joins and constant answer. -/
import Derived.Test.YtokbgbbkopmngaaGreatSgOf
namespace Go.Proofs.YtokbgbbkopmngaaGreat
open Go.RowKit Go.Deep

set_option maxRecDepth 100000 in
set_option maxHeartbeats 1000000 in
theorem joins_still (a : Option Addr) (n cap : Nat) (l : List Sym) (f : Int) (w : World) (h : SigAt w a n l) :
    Calls Tryz.prog 30 #[.slice a n cap, .int .i64 f] w fun e w' => e = .returned (.bool (joinsAt l f)) ∧ w' = w := by
  have HS : Hid (SigAt w a n l) := h
  have hm := h.small
  unfold maxLen at hm
  obtain rfl := h.len
  clear h
  by_cases h0 : f < 0
  · have e : Hid (joinsAt l f = false) := by show _ = _; unfold joinsAt; rw [symAt_out (by omega)]
    have hd : ¬ 0 ≤ f := by omega
    go_enter Tryz.func30, Tryz.ntmps30
    go_wp2
    go_ret
    exact ⟨by rw [e.out]; rfl, rfl⟩
  · obtain ⟨k, rfl⟩ : ∃ k : Nat, f = k := ⟨f.toNat, by omega⟩
    by_cases hk : k < l.length
    · obtain ⟨b, off, rfl, hs⟩ := HS.out.cells k hk
      have e : Hid (joinsAt l (k : Int) = (decide (l[k].kind = 2) || decide (l[k].kind = 3))) := by show _ = _; unfold joinsAt; rw [symAt_in hk]
      obtain ⟨s, hs1⟩ : ∃ s, l[k] = s := ⟨_, rfl⟩
      rw [hs1] at hs e
      have c1 := hs.kind
      have hk0 : (0 : Int) ≤ (k : Int) := by omega
      have hkn : (k : Int) < (l.length : Int) := by omega
      clear hs hs1 h0
      by_cases h2 : s.kind = 2
      · have hd : (s.kind == 2) = true := by simp [h2]
        go_enter Tryz.func30, Tryz.ntmps30
        go_wp2
        go_ret
        exact ⟨by rw [e.out]; simp [h2], rfl⟩
      · have hd : (s.kind == 2) = false := by simp [h2]
        by_cases h3 : s.kind = 3
        · have hd3 : (s.kind == 3) = true := by simp [h3]
          go_enter Tryz.func30, Tryz.ntmps30
          go_wp2
          go_ret
          exact ⟨by rw [e.out]; simp [h3], rfl⟩
        · have hd3 : (s.kind == 3) = false := by simp [h3]
          go_enter Tryz.func30, Tryz.ntmps30
          go_wp2
          go_ret
          exact ⟨by rw [e.out]; simp [h2, h3], rfl⟩
    · have e : Hid (joinsAt l (k : Int) = false) := by show _ = _; unfold joinsAt; rw [symAt_out (by omega)]
      have hd : ¬ (k : Int) < (l.length : Int) := by omega
      go_enter Tryz.func30, Tryz.ntmps30
      go_wp2
      go_ret
      exact ⟨by rw [e.out]; rfl, rfl⟩
set_option maxRecDepth 100000 in
theorem joins_any (a : Option Addr) (n cap : Nat) (l : List Sym) (f : Int) (w : World) (h : SigAt w a n l) :
    Calls Tryz.prog 30 #[.slice a n cap, .int .i64 f] w fun e w' => e = .returned (.bool (joinsAt l f)) ∧ Below w.heap.size w w' :=
  (joins_still a n cap l f w h).mono fun e w' ⟨h1, h2⟩ => ⟨h1, by rw [h2]; exact Below.refl _ _⟩

set_option maxRecDepth 100000 in
set_option maxHeartbeats 1000000 in
theorem constant_any (t : Tn) (a : Option Addr) (c : Nat) (u : Int) (w : World) (hc : lenF t.2 ≤ 9223372036854775807) :
    Calls Tryz.prog 74 #[.agg #[.string t.1.1, .int .i64 t.1.2, .slice a (lenF t.2) c], .int .i64 u] w fun e w' => e = .returned (.bool (isConst t u)) ∧ Below w.heap.size w w' := by
  have hb := TBox.new w t.1 a (lenF t.2) c
  have hlow : Hid (Below w.heap.size w (w.alloc (.cells #[.string t.1.1, .int .i64 t.1.2, .slice a (lenF t.2) c] 26))) := (Below.refl _ w).alloc (Nat.le_refl _) _
  cases hn : t.1.1.toList.isEmpty
  · have e : Hid (isConst t u = false) := by show _ = _; unfold isConst noName; rw [hn]; rfl
    go_enter Tryz.func74, Tryz.ntmps74
    go_wp2
    go_ret
    exact ⟨by rw [e.out]; rfl, hlow.out⟩
  · cases hs : (t.1.2 == u)
    · have e : Hid (isConst t u = false) := by show _ = _; unfold isConst; rw [hs]; simp
      go_enter Tryz.func74, Tryz.ntmps74
      go_wp2
      go_ret
      exact ⟨by rw [e.out]; rfl, hlow.out⟩
    · have e : Hid (isConst t u = (lenF t.2 == 0)) := by show _ = _; unfold isConst noName; rw [hs, hn]; simp
      obtain ⟨n, hnn⟩ : ∃ n, lenF t.2 = n := ⟨_, rfl⟩
      rw [hnn] at hb hlow e hc ⊢
      clear hnn
      cases n with
      | zero =>
        go_enter Tryz.func74, Tryz.ntmps74
        go_wp2
        go_ret
        exact ⟨by rw [e.out]; rfl, hlow.out⟩
      | succ n =>
        have hd : ((n : Int) + 1 == 0) = false := by simp; omega
        go_enter Tryz.func74, Tryz.ntmps74
        go_wp2
        go_ret
        exact ⟨by rw [e.out]; rfl, hlow.out⟩
end Go.Proofs.YtokbgbbkopmngaaGreat
