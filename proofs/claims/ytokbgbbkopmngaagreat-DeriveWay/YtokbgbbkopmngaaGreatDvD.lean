/- A place: takes. -/
import Derived.Test.YtokbgbbkopmngaaGreatDvB
namespace Go.Proofs.YtokbgbbkopmngaaGreat
open Go.RowKit Go.Deep

def takesN (L : List Sym) (x : ByteArray × Int) (m : Nat) (h : Bool) (p : Sp) : Bool :=
  if p.kind = 5 then true else if p.kind = 4 ∧ h = false then false
  else if p.kind = 1 ∨ p.kind = 2 ∨ p.kind = 3 ∨ p.kind = 4 then noName x.1 && joinsAt L x.2 && inI p.at_ m else false
/-- The boxes of a deed. -/
structure Two (w : World) (cs ds : Array Value) (W : World) : Prop where
  low : Below w.heap.size w W
  l : Box W w.heap.size 76 cs
  r : Box W (w.heap.size + 1) 47 ds
theorem Two.new (w : World) (cs ds : Array Value) : Two w cs ds ((w.alloc (.cells cs 76)).alloc (.cells ds 47)) :=
  ⟨(alloc_below0 w _).alloc (by simp) _, (Box.new w 76 cs).over _, box_new (by rw [World.size_alloc]) 47 ds⟩

set_option maxRecDepth 100000 in
set_option maxHeartbeats 4000000 in
theorem takes_any (S : Option Addr) (n cap b o : Nat) (u : Int) (h : Bool) (L : List Sym) (x : ByteArray × Int) (a : Option Addr) (m c : Nat) (p : Sp) (pa : Option Addr) (pn pc : Nat) (w : World) (hS : SigAt w S n L) (hN : Nd w b o x a m c) :
    Calls Tryz.prog 56 #[placeV S n cap b o u h, stepV p pa pn pc] w fun e w' => e = .returned (.bool (takesN L x m h p)) ∧ Below w.heap.size w w' := by
  obtain ⟨W0, hW0⟩ : ∃ W0, (w.alloc (.cells #[.slice S n cap, .pointer (some ⟨b, o, none⟩), .int .i64 u, .bool h] 76)).alloc (.cells (stepC p pa pn pc) 47) = W0 := ⟨_, rfl⟩
  have hT : Two w #[.slice S n cap, .pointer (some ⟨b, o, none⟩), .int .i64 u, .bool h] (stepC p pa pn pc) W0 := by rw [← hW0]; exact Two.new _ _ _
  have hN0 := hN.below hT.low
  have hS0 : SigAt W0 S n L := hS.below hT.low
  have hne := later_some W0
  have d0 := later_cell (hT.l.v (k := 0) rfl)
  have d1 := later_cell (hT.l.v (k := 1) rfl)
  have d2 := later_cell (hT.l.v (k := 2) rfl)
  have d3 := later_cell (hT.l.v (k := 3) rfl)
  have g2 := later_cell (hT.r.v (k := 2) rfl)
  have z0 := hT.r.v (k := 0) rfl
  have z3 := hT.l.v (k := 3) rfl
  have e2 := later_cell hN0.list
  have HG : Hid (∀ W', Below W0.heap.size W0 W' → Calls Tryz.prog 70 #[placeV S n cap b o u h] W' fun e w' => e = .returned (.bool (noName x.1 && joinsAt L x.2)) ∧ Below W'.heap.size W' w') := fun W' hb => gathers_any S n cap b o u h L x a m c W' (hS0.below hb) (hN0.below hb)
  have HB := hid hT.low
  obtain ⟨gt, hgt⟩ : ∃ gt, (noName x.1 && joinsAt L x.2) = gt := ⟨_, rfl⟩
  unfold takesN
  rw [hgt] at HG ⊢
  obtain ⟨kd, at_, many, sym⟩ := p
  simp only at z0 g2 hW0 ⊢
  clear hT hN0 hS0 hS hN hgt
  by_cases h5 : kd = 5
  · subst h5
    go_enter Tryz.func56, Tryz.ntmps56
    go_wp2
    go_ret
    exact ⟨rfl, HB.out⟩
  · have b5 : (kd == 5) = false := by simp [h5]
    by_cases h4 : kd = 4
    · subst h4
      cases h
      · go_enter Tryz.func56, Tryz.ntmps56
        go_wp2
        go_ret
        exact ⟨rfl, HB.out⟩
      · cases gt
        · go_enter Tryz.func56, Tryz.ntmps56
          go_wp2_with fail
          refine wp_region_later (by kernel_rfl) (by kernel_rfl) ?_
          repeat (go_big_quiet_step (first | (go_at_call 70; refine calls_later (HG.out _ ?_); exact Later.below _) | fail))
          refine wpQuiet_nil ?_
          intro _ hw'
          obtain ⟨b2, hw''⟩ := hw'
          subst hw''
          go_wp2
          go_ret
          exact ⟨rfl, HB.out.trans (b2.below.mono HB.out.size)⟩
        · by_cases ha : 0 ≤ at_
          · have ha1 : decide (0 ≤ at_) = true := by simp [ha]
            by_cases hm : at_ < (m : Int)
            · have hm1 : decide (at_ < (m : Int)) = true := by simp [hm]
              go_enter Tryz.func56, Tryz.ntmps56
              go_wp2_with fail
              refine wp_region_later (by kernel_rfl) (by kernel_rfl) ?_
              repeat (go_big_quiet_step (first | (go_at_call 70; refine calls_later (HG.out _ ?_); exact Later.below _) | fail))
              refine wpQuiet_nil ?_
              intro _ hw'
              obtain ⟨b2, hw''⟩ := hw'
              subst hw''
              go_wp2
              go_ret
              exact ⟨by simp only [inI, ha1, hm1]; rfl, HB.out.trans (b2.below.mono HB.out.size)⟩
            · have hm1 : decide (at_ < (m : Int)) = false := by simp; omega
              go_enter Tryz.func56, Tryz.ntmps56
              go_wp2_with fail
              refine wp_region_later (by kernel_rfl) (by kernel_rfl) ?_
              repeat (go_big_quiet_step (first | (go_at_call 70; refine calls_later (HG.out _ ?_); exact Later.below _) | fail))
              refine wpQuiet_nil ?_
              intro _ hw'
              obtain ⟨b2, hw''⟩ := hw'
              subst hw''
              go_wp2
              go_ret
              exact ⟨by simp only [inI, ha1, hm1]; rfl, HB.out.trans (b2.below.mono HB.out.size)⟩
          · have ha1 : decide (0 ≤ at_) = false := by simp; omega
            go_enter Tryz.func56, Tryz.ntmps56
            go_wp2_with fail
            refine wp_region_later (by kernel_rfl) (by kernel_rfl) ?_
            repeat (go_big_quiet_step (first | (go_at_call 70; refine calls_later (HG.out _ ?_); exact Later.below _) | fail))
            refine wpQuiet_nil ?_
            intro _ hw'
            obtain ⟨b2, hw''⟩ := hw'
            subst hw''
            go_wp2
            go_ret
            exact ⟨by simp only [inI, ha1]; rfl, HB.out.trans (b2.below.mono HB.out.size)⟩
    · have b4 : (kd == 4) = false := by simp [h4]
      by_cases h1 : kd = 1
      · subst h1
        cases gt
        · go_enter Tryz.func56, Tryz.ntmps56
          go_wp2_with fail
          refine wp_region_later (by kernel_rfl) (by kernel_rfl) ?_
          repeat (go_big_quiet_step (first | (go_at_call 70; refine calls_later (HG.out _ ?_); exact Later.below _) | fail))
          refine wpQuiet_nil ?_
          intro _ hw'
          obtain ⟨b2, hw''⟩ := hw'
          subst hw''
          go_wp2
          go_ret
          exact ⟨rfl, HB.out.trans (b2.below.mono HB.out.size)⟩
        · by_cases ha : 0 ≤ at_
          · have ha1 : decide (0 ≤ at_) = true := by simp [ha]
            by_cases hm : at_ < (m : Int)
            · have hm1 : decide (at_ < (m : Int)) = true := by simp [hm]
              go_enter Tryz.func56, Tryz.ntmps56
              go_wp2_with fail
              refine wp_region_later (by kernel_rfl) (by kernel_rfl) ?_
              repeat (go_big_quiet_step (first | (go_at_call 70; refine calls_later (HG.out _ ?_); exact Later.below _) | fail))
              refine wpQuiet_nil ?_
              intro _ hw'
              obtain ⟨b2, hw''⟩ := hw'
              subst hw''
              go_wp2
              go_ret
              exact ⟨by simp only [inI, ha1, hm1]; rfl, HB.out.trans (b2.below.mono HB.out.size)⟩
            · have hm1 : decide (at_ < (m : Int)) = false := by simp; omega
              go_enter Tryz.func56, Tryz.ntmps56
              go_wp2_with fail
              refine wp_region_later (by kernel_rfl) (by kernel_rfl) ?_
              repeat (go_big_quiet_step (first | (go_at_call 70; refine calls_later (HG.out _ ?_); exact Later.below _) | fail))
              refine wpQuiet_nil ?_
              intro _ hw'
              obtain ⟨b2, hw''⟩ := hw'
              subst hw''
              go_wp2
              go_ret
              exact ⟨by simp only [inI, ha1, hm1]; rfl, HB.out.trans (b2.below.mono HB.out.size)⟩
          · have ha1 : decide (0 ≤ at_) = false := by simp; omega
            go_enter Tryz.func56, Tryz.ntmps56
            go_wp2_with fail
            refine wp_region_later (by kernel_rfl) (by kernel_rfl) ?_
            repeat (go_big_quiet_step (first | (go_at_call 70; refine calls_later (HG.out _ ?_); exact Later.below _) | fail))
            refine wpQuiet_nil ?_
            intro _ hw'
            obtain ⟨b2, hw''⟩ := hw'
            subst hw''
            go_wp2
            go_ret
            exact ⟨by simp only [inI, ha1]; rfl, HB.out.trans (b2.below.mono HB.out.size)⟩
      · have b1 : (kd == 1) = false := by simp [h1]
        by_cases h2 : kd = 2
        · subst h2
          cases gt
          · go_enter Tryz.func56, Tryz.ntmps56
            go_wp2_with fail
            refine wp_region_later (by kernel_rfl) (by kernel_rfl) ?_
            repeat (go_big_quiet_step (first | (go_at_call 70; refine calls_later (HG.out _ ?_); exact Later.below _) | fail))
            refine wpQuiet_nil ?_
            intro _ hw'
            obtain ⟨b2, hw''⟩ := hw'
            subst hw''
            go_wp2
            go_ret
            exact ⟨rfl, HB.out.trans (b2.below.mono HB.out.size)⟩
          · by_cases ha : 0 ≤ at_
            · have ha1 : decide (0 ≤ at_) = true := by simp [ha]
              by_cases hm : at_ < (m : Int)
              · have hm1 : decide (at_ < (m : Int)) = true := by simp [hm]
                go_enter Tryz.func56, Tryz.ntmps56
                go_wp2_with fail
                refine wp_region_later (by kernel_rfl) (by kernel_rfl) ?_
                repeat (go_big_quiet_step (first | (go_at_call 70; refine calls_later (HG.out _ ?_); exact Later.below _) | fail))
                refine wpQuiet_nil ?_
                intro _ hw'
                obtain ⟨b2, hw''⟩ := hw'
                subst hw''
                go_wp2
                go_ret
                exact ⟨by simp only [inI, ha1, hm1]; rfl, HB.out.trans (b2.below.mono HB.out.size)⟩
              · have hm1 : decide (at_ < (m : Int)) = false := by simp; omega
                go_enter Tryz.func56, Tryz.ntmps56
                go_wp2_with fail
                refine wp_region_later (by kernel_rfl) (by kernel_rfl) ?_
                repeat (go_big_quiet_step (first | (go_at_call 70; refine calls_later (HG.out _ ?_); exact Later.below _) | fail))
                refine wpQuiet_nil ?_
                intro _ hw'
                obtain ⟨b2, hw''⟩ := hw'
                subst hw''
                go_wp2
                go_ret
                exact ⟨by simp only [inI, ha1, hm1]; rfl, HB.out.trans (b2.below.mono HB.out.size)⟩
            · have ha1 : decide (0 ≤ at_) = false := by simp; omega
              go_enter Tryz.func56, Tryz.ntmps56
              go_wp2_with fail
              refine wp_region_later (by kernel_rfl) (by kernel_rfl) ?_
              repeat (go_big_quiet_step (first | (go_at_call 70; refine calls_later (HG.out _ ?_); exact Later.below _) | fail))
              refine wpQuiet_nil ?_
              intro _ hw'
              obtain ⟨b2, hw''⟩ := hw'
              subst hw''
              go_wp2
              go_ret
              exact ⟨by simp only [inI, ha1]; rfl, HB.out.trans (b2.below.mono HB.out.size)⟩
        · have b2' : (kd == 2) = false := by simp [h2]
          by_cases h3 : kd = 3
          · subst h3
            cases gt
            · go_enter Tryz.func56, Tryz.ntmps56
              go_wp2_with fail
              refine wp_region_later (by kernel_rfl) (by kernel_rfl) ?_
              repeat (go_big_quiet_step (first | (go_at_call 70; refine calls_later (HG.out _ ?_); exact Later.below _) | fail))
              refine wpQuiet_nil ?_
              intro _ hw'
              obtain ⟨b2, hw''⟩ := hw'
              subst hw''
              go_wp2
              go_ret
              exact ⟨rfl, HB.out.trans (b2.below.mono HB.out.size)⟩
            · by_cases ha : 0 ≤ at_
              · have ha1 : decide (0 ≤ at_) = true := by simp [ha]
                by_cases hm : at_ < (m : Int)
                · have hm1 : decide (at_ < (m : Int)) = true := by simp [hm]
                  go_enter Tryz.func56, Tryz.ntmps56
                  go_wp2_with fail
                  refine wp_region_later (by kernel_rfl) (by kernel_rfl) ?_
                  repeat (go_big_quiet_step (first | (go_at_call 70; refine calls_later (HG.out _ ?_); exact Later.below _) | fail))
                  refine wpQuiet_nil ?_
                  intro _ hw'
                  obtain ⟨b2, hw''⟩ := hw'
                  subst hw''
                  go_wp2
                  go_ret
                  exact ⟨by simp only [inI, ha1, hm1]; rfl, HB.out.trans (b2.below.mono HB.out.size)⟩
                · have hm1 : decide (at_ < (m : Int)) = false := by simp; omega
                  go_enter Tryz.func56, Tryz.ntmps56
                  go_wp2_with fail
                  refine wp_region_later (by kernel_rfl) (by kernel_rfl) ?_
                  repeat (go_big_quiet_step (first | (go_at_call 70; refine calls_later (HG.out _ ?_); exact Later.below _) | fail))
                  refine wpQuiet_nil ?_
                  intro _ hw'
                  obtain ⟨b2, hw''⟩ := hw'
                  subst hw''
                  go_wp2
                  go_ret
                  exact ⟨by simp only [inI, ha1, hm1]; rfl, HB.out.trans (b2.below.mono HB.out.size)⟩
              · have ha1 : decide (0 ≤ at_) = false := by simp; omega
                go_enter Tryz.func56, Tryz.ntmps56
                go_wp2_with fail
                refine wp_region_later (by kernel_rfl) (by kernel_rfl) ?_
                repeat (go_big_quiet_step (first | (go_at_call 70; refine calls_later (HG.out _ ?_); exact Later.below _) | fail))
                refine wpQuiet_nil ?_
                intro _ hw'
                obtain ⟨b2, hw''⟩ := hw'
                subst hw''
                go_wp2
                go_ret
                exact ⟨by simp only [inI, ha1]; rfl, HB.out.trans (b2.below.mono HB.out.size)⟩
          · have b3 : (kd == 3) = false := by simp [h3]
            go_enter Tryz.func56, Tryz.ntmps56
            go_wp2
            go_ret
            exact ⟨by simp, HB.out⟩
end Go.Proofs.YtokbgbbkopmngaaGreat
