/- A place: gathers, placeAt, takes. -/
import Derived.Test.YtokbgbbkopmngaaGreatDvU
import Derived.Test.YtokbgbbkopmngaaGreatDvQ
import Derived.Test.YtokbgbbkopmngaaGreatPUnit
import Derived.Test.YtokbgbbkopmngaaGreatSgOf
namespace Go.Proofs.YtokbgbbkopmngaaGreat
open Go.RowKit Go.Deep

def Box (W : World) (B : Nat) (T : TypeId) (cs : Array Value) : Prop := W.heap[B]? = some (.cells cs T (0, 0))
theorem Box.new (W : World) (T : TypeId) (cs : Array Value) : Box (W.alloc (.cells cs T)) W.heap.size T cs := World.alloc_heap_new W _
theorem Box.c {W : World} {B : Nat} {T : TypeId} {cs : Array Value} (h : Box W B T cs) (k : Nat) : W.cell? ⟨B, k, none⟩ = cs[k]? := by simp [World.cell?, show W.heap[B]? = _ from h]
theorem Box.v {W : World} {B : Nat} {T : TypeId} {cs : Array Value} (h : Box W B T cs) {k : Nat} {v : Value} (hv : cs[k]? = some v) : W.cell? ⟨B, k, none⟩ = some v := (h.c k).trans hv
theorem Box.f {W : World} {B : Nat} {T : TypeId} {cs : Array Value} (h : Box W B T cs) (k : Nat) : W.frozen? ⟨B, k, none⟩ = false := by simp [World.frozen?, show W.heap[B]? = _ from h]
theorem Box.lt {W : World} {B : Nat} {T : TypeId} {cs : Array Value} (h : Box W B T cs) : B < W.heap.size := (Array.getElem?_eq_some_iff.1 h).1
theorem Box.below {W W' : World} {B : Nat} {T : TypeId} {cs : Array Value} (h : Box W B T cs) (hb : Below W.heap.size W W') : Box W' B T cs := (hb.block B h.lt).trans h
theorem Box.set {W : World} {B : Nat} {T : TypeId} {cs : Array Value} (h : Box W B T cs) (k : Nat) (u : Value) : Box (W.setCell ⟨B, k, none⟩ u) B T (cs.setIfInBounds k u) := block_set h u
theorem Box.far {W : World} {B q : Nat} {T : TypeId} {cs : Array Value} (h : Box W B T cs) (hq : B ≠ q) (k : Nat) (u : Value) : Box (W.setCell ⟨q, k, none⟩ u) B T cs := (Below.heap_setCell W ⟨q, k, none⟩ u B hq).trans h
theorem Box.over {W : World} {B : Nat} {T : TypeId} {cs : Array Value} (h : Box W B T cs) (o : Obj) : Box (W.alloc o) B T cs := (Below.heap_alloc W o B h.lt).trans h
theorem box_new {W : World} {g : Nat} (hg : W.heap.size = g) (T : TypeId) (cs : Array Value) : Box (W.alloc (.cells cs T)) g T cs := by subst hg; exact Box.new W T cs
theorem Box.fr {W W' : World} {B : Nat} {T : TypeId} {cs : Array Value} {A : Bl} (h : Box W B T cs) (hf : Fr A W W') (hA : ¬ A B) : Box W' B T cs := (hf.same B h.lt hA).trans h

/-- A place's value, a step's. -/
abbrev placeV (S : Option Addr) (n cap b o : Nat) (u : Int) (h : Bool) : Value := .agg #[.slice S n cap, .pointer (some ⟨b, o, none⟩), .int .i64 u, .bool h]
abbrev stepV (p : Sp) (pa : Option Addr) (pn pc : Nat) : Value := .agg #[.int .i64 p.kind, .slice pa pn pc, .int .i64 p.at_, .int .i64 p.many, .int .i64 p.sym]
abbrev stepC (p : Sp) (pa : Option Addr) (pn pc : Nat) : Array Value := #[.int .i64 p.kind, .slice pa pn pc, .int .i64 p.at_, .int .i64 p.many, .int .i64 p.sym]
abbrev zSp : Sp := ⟨0, 0, 0, 0⟩
/-- The three cells of a node. -/
structure Nd (w : World) (b o : Nat) (x : ByteArray × Int) (a : Option Addr) (n c : Nat) : Prop where
  name : w.cell? ⟨b, o, none⟩ = some (.string x.1)
  sym : w.cell? ⟨b, o + 1, none⟩ = some (.int .i64 x.2)
  list : w.cell? ⟨b, o + 2, none⟩ = some (.slice a n c)
theorem Nd.below {w w' : World} {b o : Nat} {x : ByteArray × Int} {a : Option Addr} {n c : Nat} (h : Nd w b o x a n c) (hb : Below w.heap.size w w') : Nd w' b o x a n c := ⟨below_cell hb _ _ h.name, below_cell hb _ _ h.sym, below_cell hb _ _ h.list⟩
theorem Tryz.size47 : (Tryz.prog.info? 47).map (·.size) = some 5 := by kernel_rfl
theorem Tryz.size76 : (Tryz.prog.info? 76).map (·.size) = some 4 := by kernel_rfl
set_option maxRecDepth 100000 in
set_option maxHeartbeats 4000000 in
theorem gathers_any (S : Option Addr) (n cap b o : Nat) (u : Int) (h : Bool) (L : List Sym) (x : ByteArray × Int) (a : Option Addr) (m c : Nat) (w : World) (hS : SigAt w S n L) (hN : Nd w b o x a m c) :
    Calls Tryz.prog 70 #[placeV S n cap b o u h] w fun e w' => e = .returned (.bool (noName x.1 && joinsAt L x.2)) ∧ Below w.heap.size w w' := by
  obtain ⟨W0, hW0⟩ : ∃ W0, w.alloc (.cells #[.slice S n cap, .pointer (some ⟨b, o, none⟩), .int .i64 u, .bool h] 76) = W0 := ⟨_, rfl⟩
  have hb0 : Below w.heap.size w W0 := by rw [← hW0]; exact alloc_below0 _ _
  have B0 : Box W0 w.heap.size 76 #[.slice S n cap, .pointer (some ⟨b, o, none⟩), .int .i64 u, .bool h] := by rw [← hW0]; exact Box.new _ _ _
  have hN0 := hN.below hb0
  have hm := hS.small
  unfold maxLen at hm
  obtain rfl := hS.len
  have hne := later_some W0
  have d0 := later_cell (B0.v (k := 0) rfl)
  have d1 := later_cell (B0.v (k := 1) rfl)
  have e0 := later_cell hN0.name
  have e1 := later_cell hN0.sym
  have HB := hid hb0
  cases hx : x.1.toList.isEmpty
  · have hr : Hid (noName x.1 = false) := hx
    clear hb0 B0 hN0 hS hN
    go_enter Tryz.func70, Tryz.ntmps70
    go_wp2_with fail
    refine wp_region_later (by kernel_rfl) (by kernel_rfl) ?_
    repeat (go_big_quiet_step (fail))
    refine wpQuiet_nil ?_
    intro _ hw'
    obtain ⟨b2, hw''⟩ := hw'
    subst hw''
    go_wp2
    go_ret
    exact ⟨by rw [hr.out]; rfl, HB.out.trans (b2.below.mono HB.out.size)⟩
  · have hr : Hid (noName x.1 = true) := hx
    by_cases h0 : x.2 < 0
    · have e : Hid (joinsAt L x.2 = false) := by show _ = _; unfold joinsAt; rw [symAt_out (by omega)]
      clear hb0 B0 hN0 hS hN
      go_enter Tryz.func70, Tryz.ntmps70
      go_wp2_with fail
      refine wp_region_later (by kernel_rfl) (by kernel_rfl) ?_
      repeat (go_big_quiet_step (fail))
      refine wpQuiet_nil ?_
      intro _ hw'
      obtain ⟨b2, hw''⟩ := hw'
      subst hw''
      go_wp2
      go_ret
      exact ⟨by rw [hr.out, e.out]; rfl, HB.out.trans (b2.below.mono HB.out.size)⟩
    · obtain ⟨nm, f⟩ := x
      simp only at h0 e0 e1 hx hr
      obtain ⟨k, rfl⟩ : ∃ k : Nat, f = k := ⟨f.toNat, by omega⟩
      have h0' : ¬ (k : Int) < 0 := by omega
      have h0d : decide ((k : Int) < 0) = false := by simp
      by_cases hk : k < L.length
      · obtain ⟨sb, off, rfl, hs⟩ := hS.cells k hk
        have e : Hid (joinsAt L (k : Int) = (decide (L[k].kind = 2) || decide (L[k].kind = 3))) := by show _ = _; unfold joinsAt; rw [symAt_in hk]
        obtain ⟨s, hs1⟩ : ∃ s, L[k] = s := ⟨_, rfl⟩
        rw [hs1] at hs e
        have c1 := later_cell (below_cell hb0 _ _ hs.kind)
        have hk0 : (0 : Int) ≤ (k : Int) := by omega
        have hkn : (k : Int) < (L.length : Int) := by omega
        have hkn2 : decide ((L.length : Int) ≤ (k : Int)) = false := by simp; omega
        have hkn3 : ¬ (L.length : Int) ≤ (k : Int) := by omega
        clear hb0 B0 hN0 hS hN hs hs1 h0
        by_cases h2 : s.kind = 2
        · have hd : (s.kind == 2) = true := by simp [h2]
          go_enter Tryz.func70, Tryz.ntmps70
          go_wp2_with fail
          refine wp_region_later (by kernel_rfl) (by kernel_rfl) ?_
          repeat (go_big_quiet_step (fail))
          refine wpQuiet_nil ?_
          intro _ hw'
          obtain ⟨b2, hw''⟩ := hw'
          subst hw''
          go_wp2_with fail
          have hne2 := later_some b2.now
          have d0' := fun (b : Later b2.now) => later_cell (d0 b2) b
          have d1' := fun (b : Later b2.now) => later_cell (d1 b2) b
          have e1' := fun (b : Later b2.now) => later_cell (e1 b2) b
          have c1' := fun (b : Later b2.now) => later_cell (c1 b2) b
          refine wp_region_later (by kernel_rfl) (by kernel_rfl) ?_
          repeat (go_big_quiet_step (fail))
          refine wpQuiet_nil ?_
          intro _ hw'
          obtain ⟨b3, hw''⟩ := hw'
          subst hw''
          go_wp2
          go_ret
          exact ⟨by rw [hr.out, e.out]; simp [h2], (HB.out.trans (b2.below.mono HB.out.size)).trans (b3.below.mono (Nat.le_trans HB.out.size b2.below.size))⟩
        · have hd : (s.kind == 2) = false := by simp [h2]
          by_cases h3 : s.kind = 3
          · have hd3 : (s.kind == 3) = true := by simp [h3]
            go_enter Tryz.func70, Tryz.ntmps70
            go_wp2_with fail
            refine wp_region_later (by kernel_rfl) (by kernel_rfl) ?_
            repeat (go_big_quiet_step (fail))
            refine wpQuiet_nil ?_
            intro _ hw'
            obtain ⟨b2, hw''⟩ := hw'
            subst hw''
            go_wp2_with fail
            have hne2 := later_some b2.now
            have d0' := fun (b : Later b2.now) => later_cell (d0 b2) b
            have d1' := fun (b : Later b2.now) => later_cell (d1 b2) b
            have e1' := fun (b : Later b2.now) => later_cell (e1 b2) b
            have c1' := fun (b : Later b2.now) => later_cell (c1 b2) b
            refine wp_region_later (by kernel_rfl) (by kernel_rfl) ?_
            repeat (go_big_quiet_step (fail))
            refine wpQuiet_nil ?_
            intro _ hw'
            obtain ⟨b3, hw''⟩ := hw'
            subst hw''
            go_wp2
            go_ret
            exact ⟨by rw [hr.out, e.out]; simp [h3], (HB.out.trans (b2.below.mono HB.out.size)).trans (b3.below.mono (Nat.le_trans HB.out.size b2.below.size))⟩
          · have hd3 : (s.kind == 3) = false := by simp [h3]
            go_enter Tryz.func70, Tryz.ntmps70
            go_wp2_with fail
            refine wp_region_later (by kernel_rfl) (by kernel_rfl) ?_
            repeat (go_big_quiet_step (fail))
            refine wpQuiet_nil ?_
            intro _ hw'
            obtain ⟨b2, hw''⟩ := hw'
            subst hw''
            go_wp2_with fail
            have hne2 := later_some b2.now
            have d0' := fun (b : Later b2.now) => later_cell (d0 b2) b
            have d1' := fun (b : Later b2.now) => later_cell (d1 b2) b
            have e1' := fun (b : Later b2.now) => later_cell (e1 b2) b
            have c1' := fun (b : Later b2.now) => later_cell (c1 b2) b
            refine wp_region_later (by kernel_rfl) (by kernel_rfl) ?_
            repeat (go_big_quiet_step (fail))
            refine wpQuiet_nil ?_
            intro _ hw'
            obtain ⟨b3, hw''⟩ := hw'
            subst hw''
            go_wp2
            go_ret
            exact ⟨by rw [hr.out, e.out]; simp [h2, h3], (HB.out.trans (b2.below.mono HB.out.size)).trans (b3.below.mono (Nat.le_trans HB.out.size b2.below.size))⟩
      · have e : Hid (joinsAt L (k : Int) = false) := by show _ = _; unfold joinsAt; rw [symAt_out (by omega)]
        have hkn2 : decide ((L.length : Int) ≤ (k : Int)) = true := by simp; omega
        have hkn3 : (L.length : Int) ≤ (k : Int) := by omega
        clear hb0 B0 hN0 hS hN h0
        go_enter Tryz.func70, Tryz.ntmps70
        go_wp2_with fail
        refine wp_region_later (by kernel_rfl) (by kernel_rfl) ?_
        repeat (go_big_quiet_step (fail))
        refine wpQuiet_nil ?_
        intro _ hw'
        obtain ⟨b2, hw''⟩ := hw'
        subst hw''
        go_wp2_with fail
        go_ret
        exact ⟨by rw [hr.out, e.out]; rfl, HB.out.trans (b2.below.mono HB.out.size)⟩
end Go.Proofs.YtokbgbbkopmngaaGreat
