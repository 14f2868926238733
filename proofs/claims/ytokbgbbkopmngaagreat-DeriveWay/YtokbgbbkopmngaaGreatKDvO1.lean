import Derived.Test.YtokbgbbkopmngaaGreatKDvF
/- A place: do, by the deed 71. -/
namespace Go.Proofs.YtokbgbbkopmngaaGreat
open Go.RowKit Go.Deep

set_option maxRecDepth 100000 in
set_option maxHeartbeats 8000000 in
theorem do_71 (S : Option Addr) (n cap b o : Nat) (L : List Sym) (A : Bl) (t : Tn) (a : Option Addr) (c : Nat) (ks : List Kv) (cur : Array Value) (p : Sp) (pa : Option Addr) (pn pc : Nat) (w : World)
    (hS : SigAt w S n L) (hP : Pl w b o A t.1 a c ks cur) (hks : ks.map Kv.tn = kidsL t.2) (hn : nodesF t.2 ≤ 1048576) (hK : deedK p.kind = 77) :
    Calls Tryz.prog 38 #[placeV S n cap b o (unitI L t.1.2) (unitOk L t.1.2), stepV p pa pn pc] w (DeedEnd w b o A cur (stepN (sgOf L) t p)) := by
  have hkl := kv_len hks
  obtain ⟨u, hu⟩ : ∃ u, unitI L t.1.2 = u := ⟨_, rfl⟩
  obtain ⟨h, hh⟩ : ∃ h, unitOk L t.1.2 = h := ⟨_, rfl⟩
  obtain ⟨W0, hW0⟩ : ∃ W0, ((w.alloc (.cells #[.slice S n cap, .pointer (some ⟨b, o, none⟩), .int .i64 u, .bool h] 76)).alloc (.cells (stepC p pa pn pc) 47)).alloc (.cells (stepC zSp none 0 0) 47) = W0 := ⟨_, rfl⟩
  have hT : Tri w #[.slice S n cap, .pointer (some ⟨b, o, none⟩), .int .i64 u, .bool h] (stepC p pa pn pc) W0 := by rw [← hW0]; exact Tri.new _ _ _
  have hsz : W0.heap.size = w.heap.size + 3 := by rw [← hW0]; simp
  have hP0 := hP.below hT.low
  have hTk := takes_any S n cap b o u h L t.1 a ks.length c p pa pn pc W0 (hS.below hT.low) hP0.nd
  obtain ⟨tk, htk⟩ : ∃ tk, takesN L t.1 ks.length h p = tk := ⟨_, rfl⟩
  rw [htk] at hTk
  rw [hkl, ← hh] at htk
  rw [hu, hh]
  obtain ⟨r, hr⟩ : ∃ r, stepN (sgOf L) t p = r := ⟨_, rfl⟩
  rw [hr]
  have d0 := hT.l.v (k := 0) rfl; have d1 := hT.l.v (k := 1) rfl; have d2 := hT.l.v (k := 2) rfl; have d3 := hT.l.v (k := 3) rfl
  have s0 := hT.r.v (k := 0) rfl; have s1 := hT.r.v (k := 1) rfl; have s2 := hT.r.v (k := 2) rfl; have s3 := hT.r.v (k := 3) rfl; have s4 := hT.r.v (k := 4) rfl
  have HDeed : Hid (∀ W, Below w.heap.size w W → takesN L t.1 (lenF t.2) (unitOk L t.1.2) p = true → Calls Tryz.prog (deedK p.kind) #[placeV S n cap b o u h, stepV p pa pn pc] W (DeedEnd W b o (fun q => A q ∧ q < w.heap.size) cur r)) := fun W hb htr => by
    have := deed_any S n cap b o L (fun q => A q ∧ q < w.heap.size) t a c ks cur p pa pn pc W (hS.below hb) (hP.within.below hb) hks hn htr
    rw [hu, hh, hr] at this
    exact this
  have HTKf : Hid (tk = false → r = none) := fun e => by rw [← hr]; exact stepN_takes (htk.trans e)
  have HTKt : Hid (tk = true → takesN L t.1 (lenF t.2) (unitOk L t.1.2) p = true) := fun e => htk.trans e
  have HSZ := hid hsz; have HT := hid hT; have HBL : Hid (b < w.heap.size) := hP.lt
  clear hT hP hP0 hsz hkl hks hn hS htk hr hu hh
  go_enter Tryz.func38, Tryz.ntmps38
  go_wp2_with fail
  clear hW0
  refine hTk.mono ?_
  rintro e w1 ⟨rfl, hb1⟩
  have hsz0 := HSZ.out
  have hbw : Below w.heap.size w w1 := HT.out.low.trans (hb1.mono (by omega))
  have hws : w.heap.size + 3 ≤ w1.heap.size := by have := hb1.size; omega
  have hl1 := HT.out.l.below hb1; have hr1 := HT.out.r.below hb1; have hz1 := HT.out.z.below hb1
  have z0 := hz1.v (k := 0) rfl; have z1 := hz1.v (k := 1) rfl; have z2 := hz1.v (k := 2) rfl; have z3 := hz1.v (k := 3) rfl; have z4 := hz1.v (k := 4) rfl
  have f0 := hz1.f 0; have f1 := hz1.f 1; have f2 := hz1.f 2; have f3 := hz1.f 3; have f4 := hz1.f 4
  have HZ1 := hid hz1; have HBW := hid hbw; have HWS := hid hws
  cases tk
  · clear hTk hl1 hr1 hz1 hbw hws hb1 hsz0 d0 d1 d2 d3 s0 s1 s2 s3 s4 HDeed
    go_wp2
    refine ret_step rfl rfl (sets5_box HZ1.out _ _ _ _ _) rfl rfl ?_
    exact DeedEnd.not (HTKf.out (by first | rfl | trivial)) (sets5_below HBW.out (by omega) _ _ _ _ _)
  · clear z0 z1 z2 z3 z4 f0 f1 f2 f3 f4 d0 d1 d2 d3 s0 s1 s2 s3 s4 hTk
    have d0 := hl1.v (k := 0) rfl; have d1 := hl1.v (k := 1) rfl; have d2 := hl1.v (k := 2) rfl; have d3 := hl1.v (k := 3) rfl
    have s0 := hr1.v (k := 0) rfl; have s1 := hr1.v (k := 1) rfl; have s2 := hr1.v (k := 2) rfl; have s3 := hr1.v (k := 3) rfl; have s4 := hr1.v (k := 4) rfl
    have HOf : Hid (Calls Tryz.prog 57 #[placeV S n cap b o u h, .int .i64 p.kind] w1.drew fun e w2 => e = .returned (.func (.func (deedK p.kind)) #[placeV S n cap b o u h] #[]) ∧ DoS S n cap b o u h p pa pn pc w.heap.size w2 ∧ Hid (Calls Tryz.prog (deedK p.kind) #[placeV S n cap b o u h, stepV p pa pn pc] w2 fun e w3 => e = .returned (.tuple #[stepV (ansSp r) none 0 0, .bool (ansOk r)]) ∧ Hid (Box w3 (w.heap.size + 2) 47 (stepC zSp none 0 0)) ∧ Hid (∀ w4 : World, Below 0 w3 w4 → (∀ q, q ≠ w.heap.size + 2 → w4.heap[q]? = w3.heap[q]?) → DeedEnd w b o A cur r (.returned (.tuple #[stepV (ansSp r) none 0 0, .bool (ansOk r)])) w4))) := by
      refine Calls.mono (deedOf_any S n cap b o u h p.kind w1.drew) ?_
      rintro e w2 ⟨he, hb2⟩
      have hb2' : Below w1.heap.size w1 w2 := (Below.refl _ w1).drew.trans hb2
      have hl2 := hl1.below hb2'
      have hr2 := hr1.below hb2'
      have hz2 := hz1.below hb2'
      have hbw2 : Below w.heap.size w w2 := hbw.trans (hb2'.mono hbw.size)
      have hs2 := hb2'.size
      refine ⟨he, DoS.of hl2 hr2, ?_⟩
      refine Calls.mono (HDeed.out w2 hbw2 (HTKt.out rfl)) ?_
      intro e w3 hE
      have hL := hE.lift hbw2 (B := w.heap.size + 2) (by omega) (by omega) HBL.out
      exact ⟨hE.ret, hL.1.trans hz2, hL.2⟩
    clear hl1 hr1 hz1 hbw hws hb1 hsz0 HDeed
    rw [hK] at HOf
    clear hK
    go_wp2_with fail
    go_region_with (first | (go_at_call 57; refine HOf.out.mono ?_; rintro e w2 ⟨rfl, ⟨_, _, _, _, g0, g1, g2, g3, g4⟩, HDD⟩) | (go_at_call 77; refine HDD.out.mono ?_; rintro e w3 ⟨rfl, HZ3, HE3⟩; have z0 := HZ3.out.v (k := 0) rfl; have z1 := HZ3.out.v (k := 1) rfl; have z2 := HZ3.out.v (k := 2) rfl; have z3 := HZ3.out.v (k := 3) rfl; have z4 := HZ3.out.v (k := 4) rfl; have f0 := HZ3.out.f 0; have f1 := HZ3.out.f 1; have f2 := HZ3.out.f 2; have f3 := HZ3.out.f 3; have f4 := HZ3.out.f 4) | fail)
    all_goals
      go_wp2
      refine ret_step rfl rfl (sets5_box HZ3.out _ _ _ _ _) rfl rfl ?_
      exact HE3.out _ (sets5_below (Below.refl 0 w3) (Nat.zero_le _) _ _ _ _ _) (fun q hq => sets5_far hq _ _ _ _ _)
end Go.Proofs.YtokbgbbkopmngaaGreat
/- A place: do, by the deed 72. -/
namespace Go.Proofs.YtokbgbbkopmngaaGreat
open Go.RowKit Go.Deep

set_option maxRecDepth 100000 in
set_option maxHeartbeats 8000000 in
theorem do_72 (S : Option Addr) (n cap b o : Nat) (L : List Sym) (A : Bl) (t : Tn) (a : Option Addr) (c : Nat) (ks : List Kv) (cur : Array Value) (p : Sp) (pa : Option Addr) (pn pc : Nat) (w : World)
    (hS : SigAt w S n L) (hP : Pl w b o A t.1 a c ks cur) (hks : ks.map Kv.tn = kidsL t.2) (hn : nodesF t.2 ≤ 1048576) (hK : deedK p.kind = 78) :
    Calls Tryz.prog 38 #[placeV S n cap b o (unitI L t.1.2) (unitOk L t.1.2), stepV p pa pn pc] w (DeedEnd w b o A cur (stepN (sgOf L) t p)) := by
  have hkl := kv_len hks
  obtain ⟨u, hu⟩ : ∃ u, unitI L t.1.2 = u := ⟨_, rfl⟩
  obtain ⟨h, hh⟩ : ∃ h, unitOk L t.1.2 = h := ⟨_, rfl⟩
  obtain ⟨W0, hW0⟩ : ∃ W0, ((w.alloc (.cells #[.slice S n cap, .pointer (some ⟨b, o, none⟩), .int .i64 u, .bool h] 76)).alloc (.cells (stepC p pa pn pc) 47)).alloc (.cells (stepC zSp none 0 0) 47) = W0 := ⟨_, rfl⟩
  have hT : Tri w #[.slice S n cap, .pointer (some ⟨b, o, none⟩), .int .i64 u, .bool h] (stepC p pa pn pc) W0 := by rw [← hW0]; exact Tri.new _ _ _
  have hsz : W0.heap.size = w.heap.size + 3 := by rw [← hW0]; simp
  have hP0 := hP.below hT.low
  have hTk := takes_any S n cap b o u h L t.1 a ks.length c p pa pn pc W0 (hS.below hT.low) hP0.nd
  obtain ⟨tk, htk⟩ : ∃ tk, takesN L t.1 ks.length h p = tk := ⟨_, rfl⟩
  rw [htk] at hTk
  rw [hkl, ← hh] at htk
  rw [hu, hh]
  obtain ⟨r, hr⟩ : ∃ r, stepN (sgOf L) t p = r := ⟨_, rfl⟩
  rw [hr]
  have d0 := hT.l.v (k := 0) rfl; have d1 := hT.l.v (k := 1) rfl; have d2 := hT.l.v (k := 2) rfl; have d3 := hT.l.v (k := 3) rfl
  have s0 := hT.r.v (k := 0) rfl; have s1 := hT.r.v (k := 1) rfl; have s2 := hT.r.v (k := 2) rfl; have s3 := hT.r.v (k := 3) rfl; have s4 := hT.r.v (k := 4) rfl
  have HDeed : Hid (∀ W, Below w.heap.size w W → takesN L t.1 (lenF t.2) (unitOk L t.1.2) p = true → Calls Tryz.prog (deedK p.kind) #[placeV S n cap b o u h, stepV p pa pn pc] W (DeedEnd W b o (fun q => A q ∧ q < w.heap.size) cur r)) := fun W hb htr => by
    have := deed_any S n cap b o L (fun q => A q ∧ q < w.heap.size) t a c ks cur p pa pn pc W (hS.below hb) (hP.within.below hb) hks hn htr
    rw [hu, hh, hr] at this
    exact this
  have HTKf : Hid (tk = false → r = none) := fun e => by rw [← hr]; exact stepN_takes (htk.trans e)
  have HTKt : Hid (tk = true → takesN L t.1 (lenF t.2) (unitOk L t.1.2) p = true) := fun e => htk.trans e
  have HSZ := hid hsz; have HT := hid hT; have HBL : Hid (b < w.heap.size) := hP.lt
  clear hT hP hP0 hsz hkl hks hn hS htk hr hu hh
  go_enter Tryz.func38, Tryz.ntmps38
  go_wp2_with fail
  clear hW0
  refine hTk.mono ?_
  rintro e w1 ⟨rfl, hb1⟩
  have hsz0 := HSZ.out
  have hbw : Below w.heap.size w w1 := HT.out.low.trans (hb1.mono (by omega))
  have hws : w.heap.size + 3 ≤ w1.heap.size := by have := hb1.size; omega
  have hl1 := HT.out.l.below hb1; have hr1 := HT.out.r.below hb1; have hz1 := HT.out.z.below hb1
  have z0 := hz1.v (k := 0) rfl; have z1 := hz1.v (k := 1) rfl; have z2 := hz1.v (k := 2) rfl; have z3 := hz1.v (k := 3) rfl; have z4 := hz1.v (k := 4) rfl
  have f0 := hz1.f 0; have f1 := hz1.f 1; have f2 := hz1.f 2; have f3 := hz1.f 3; have f4 := hz1.f 4
  have HZ1 := hid hz1; have HBW := hid hbw; have HWS := hid hws
  cases tk
  · clear hTk hl1 hr1 hz1 hbw hws hb1 hsz0 d0 d1 d2 d3 s0 s1 s2 s3 s4 HDeed
    go_wp2
    refine ret_step rfl rfl (sets5_box HZ1.out _ _ _ _ _) rfl rfl ?_
    exact DeedEnd.not (HTKf.out (by first | rfl | trivial)) (sets5_below HBW.out (by omega) _ _ _ _ _)
  · clear z0 z1 z2 z3 z4 f0 f1 f2 f3 f4 d0 d1 d2 d3 s0 s1 s2 s3 s4 hTk
    have d0 := hl1.v (k := 0) rfl; have d1 := hl1.v (k := 1) rfl; have d2 := hl1.v (k := 2) rfl; have d3 := hl1.v (k := 3) rfl
    have s0 := hr1.v (k := 0) rfl; have s1 := hr1.v (k := 1) rfl; have s2 := hr1.v (k := 2) rfl; have s3 := hr1.v (k := 3) rfl; have s4 := hr1.v (k := 4) rfl
    have HOf : Hid (Calls Tryz.prog 57 #[placeV S n cap b o u h, .int .i64 p.kind] w1.drew fun e w2 => e = .returned (.func (.func (deedK p.kind)) #[placeV S n cap b o u h] #[]) ∧ DoS S n cap b o u h p pa pn pc w.heap.size w2 ∧ Hid (Calls Tryz.prog (deedK p.kind) #[placeV S n cap b o u h, stepV p pa pn pc] w2 fun e w3 => e = .returned (.tuple #[stepV (ansSp r) none 0 0, .bool (ansOk r)]) ∧ Hid (Box w3 (w.heap.size + 2) 47 (stepC zSp none 0 0)) ∧ Hid (∀ w4 : World, Below 0 w3 w4 → (∀ q, q ≠ w.heap.size + 2 → w4.heap[q]? = w3.heap[q]?) → DeedEnd w b o A cur r (.returned (.tuple #[stepV (ansSp r) none 0 0, .bool (ansOk r)])) w4))) := by
      refine Calls.mono (deedOf_any S n cap b o u h p.kind w1.drew) ?_
      rintro e w2 ⟨he, hb2⟩
      have hb2' : Below w1.heap.size w1 w2 := (Below.refl _ w1).drew.trans hb2
      have hl2 := hl1.below hb2'
      have hr2 := hr1.below hb2'
      have hz2 := hz1.below hb2'
      have hbw2 : Below w.heap.size w w2 := hbw.trans (hb2'.mono hbw.size)
      have hs2 := hb2'.size
      refine ⟨he, DoS.of hl2 hr2, ?_⟩
      refine Calls.mono (HDeed.out w2 hbw2 (HTKt.out rfl)) ?_
      intro e w3 hE
      have hL := hE.lift hbw2 (B := w.heap.size + 2) (by omega) (by omega) HBL.out
      exact ⟨hE.ret, hL.1.trans hz2, hL.2⟩
    clear hl1 hr1 hz1 hbw hws hb1 hsz0 HDeed
    rw [hK] at HOf
    clear hK
    go_wp2_with fail
    go_region_with (first | (go_at_call 57; refine HOf.out.mono ?_; rintro e w2 ⟨rfl, ⟨_, _, _, _, g0, g1, g2, g3, g4⟩, HDD⟩) | (go_at_call 78; refine HDD.out.mono ?_; rintro e w3 ⟨rfl, HZ3, HE3⟩; have z0 := HZ3.out.v (k := 0) rfl; have z1 := HZ3.out.v (k := 1) rfl; have z2 := HZ3.out.v (k := 2) rfl; have z3 := HZ3.out.v (k := 3) rfl; have z4 := HZ3.out.v (k := 4) rfl; have f0 := HZ3.out.f 0; have f1 := HZ3.out.f 1; have f2 := HZ3.out.f 2; have f3 := HZ3.out.f 3; have f4 := HZ3.out.f 4) | fail)
    all_goals
      go_wp2
      refine ret_step rfl rfl (sets5_box HZ3.out _ _ _ _ _) rfl rfl ?_
      exact HE3.out _ (sets5_below (Below.refl 0 w3) (Nat.zero_le _) _ _ _ _ _) (fun q hq => sets5_far hq _ _ _ _ _)
end Go.Proofs.YtokbgbbkopmngaaGreat
