import Derived.Test.YtokbgbbkopmngaaGreatDvE
import Derived.Maps.AppendAt
import Derived.Lib.AppendZeros
import Derived.Laws.AppendOwnNone
import Derived.Shelf.Small.Strs
import Derived.Shelf.Small.Wraps
import Derived.Test.YtokbgbbkopmngaaGreatProg
import Derived.Test.YtokbgbbkopmngaaGreatRows
import Derived.Test.YtokbgbbkopmngaaGreatTMem
import Derived.WalkKit
import Derived.Sort.Grow
import Derived.WalkSpells
import Derived.WalkLawsBesides
/- The deed flat. -/
namespace Go.Proofs.YtokbgbbkopmngaaGreat
open Go.RowKit Go.Deep

theorem pick_perm {ks : List Kv} {i : Nat} {y : Kv} (hy : ks[i]? = some y) : List.Perm ks (y :: (ks.take i ++ ks.drop (i + 1))) := by
  obtain ⟨hi, rfl⟩ := List.getElem?_eq_some_iff.1 hy
  have e : ks = ks.take i ++ ks[i] :: ks.drop (i + 1) := by rw [← List.drop_eq_getElem_cons hi, List.take_append_drop]
  conv => lhs; rw [e]
  exact List.perm_middle
theorem gl_pick {E : World → Bl → Kv → Prop} {w : World} {ks : List Kv} {B : Bl} {i : Nat} {y : Kv} (h : GL E w ks B) (hy : ks[i]? = some y) : ∃ B1 B2 : Bl, (∀ q, B1 q → B q) ∧ (∀ q, B2 q → B q ∧ ¬ B1 q) ∧ E w B1 y ∧ GL E w (ks.take i ++ ks.drop (i + 1)) B2 := h.perm (pick_perm hy)
/-- A term's arguments in its place. -/
theorem gl_flat {w : World} {ks : List Kv} {B : Bl} {i : Nat} {y : Kv} (h : GL FulE w ks B) (hy : ks[i]? = some y) :
    ∃ (vs : List Kv) (B' : Bl), vs.map Kv.tn = kidsL y.l ∧ (∀ g, ¬ B g → SrcV w g y.a y.c vs) ∧ GL FulE w (layK ks i (i + 1) vs) B' ∧ ∀ q, B' q → B q := by
  obtain ⟨B1, B2, h1, h2, h3, h4⟩ := gl_pick h hy
  obtain ⟨vs, k1, k2⟩ := FulTm.open h3
  rcases k2.row with ⟨rfl, ha, _⟩ | ⟨vb, ha, hvb, hR, hG⟩
  · exact ⟨[], B2, k1, fun g _ => .inl ⟨ha, rfl⟩, h4, fun q hq => (h2 q hq).1⟩
  · refine ⟨vs, fun q => (B1 q ∧ q ≠ vb) ∨ B2 q, k1, fun g hg => .inr ⟨vb, ha, fun e => hg (e ▸ h1 vb hvb), hR⟩, ?_, ?_⟩
    · refine GL.perm ?_ (GL.append h4 (fun q hq hb => (h2 q hb).2 hq.1) hG)
      unfold layK
      rw [← List.append_assoc, ← List.append_assoc]
      exact List.perm_append_comm.append_right _
    · rintro q (hq | hq)
      · exact h1 q hq.1
      · exact (h2 q hq).1
theorem kv_get {ks : List Kv} {l : Fo} {i : Nat} (hks : ks.map Kv.tn = kidsL l) (hi : i < ks.length) : ∃ y, ks[i]? = some y ∧ (kidsL l)[i]? = some y.tn := ⟨ks[i], List.getElem?_eq_getElem hi, by rw [← hks, List.getElem?_map, List.getElem?_eq_getElem hi]; rfl⟩
theorem kv_len {ks : List Kv} {l : Fo} (hks : ks.map Kv.tn = kidsL l) : ks.length = lenF l := by have := congrArg List.length hks; rwa [List.length_map, kids_len] at this
theorem layK_map {ks vs : List Kv} {i m : Nat} : (layK ks i (i + m) vs).map Kv.tn = layL (ks.map Kv.tn) i m (vs.map Kv.tn) := by
  unfold layK layL
  rw [List.map_append, List.map_append, List.map_take, List.map_drop]
theorem nodes_get {l : Fo} {i : Nat} {t : Tn} (h : (kidsL l)[i]? = some t) : nodesF t.2 + 1 ≤ nodesF l := by
  rw [nodes_sizes l]
  exact sizes_mem (List.mem_of_getElem? h)

set_option maxRecDepth 100000 in
set_option maxHeartbeats 2000000 in
theorem flat_any (S : Option Addr) (n cap b o : Nat) (u : Int) (h : Bool) (A : Bl) (t : Tn) (a : Option Addr) (c : Nat) (ks : List Kv) (cur : Array Value) (p : Sp) (pa : Option Addr) (pn pc : Nat) (w : World)
    (hP : Pl w b o A t.1 a c ks cur) (hks : ks.map Kv.tn = kidsL t.2) (hin : inI p.at_ (lenF t.2) = true) (hn : nodesF t.2 ≤ 1048576) :
    Calls Tryz.prog 77 #[placeV S n cap b o u h, stepV p pa pn pc] w (DeedEnd w b o A cur (flatN t p)) := by
  obtain ⟨i, hi, hlt⟩ := inI_iff.1 hin
  obtain ⟨kd, at_, many, sym⟩ := p
  simp only at hi hin
  subst hi
  have hkl := kv_len hks
  have hlen := len_nodes t.2
  obtain ⟨y, hy, hyk⟩ := kv_get hks (i := i) (by omega)
  have hyn := nodes_get hyk
  have hyl := len_nodes y.tn.2
  obtain ⟨g, rfl, hAg, hR, hG⟩ : ∃ g, a = some ⟨g, 0, none⟩ ∧ A g ∧ RowV w g c ks ∧ GL FulE w ks (fun q => A q ∧ q ≠ g) := by
    rcases hP.row.row with ⟨rfl, _⟩ | h
    · simp at hy
    · exact h
  obtain ⟨vs, B', hvs, hsrc, hGL, hB'⟩ := gl_flat hG hy
  have hvl := kv_len hvs
  have hylen : lenF y.l ≤ nodesF y.l := len_nodes y.l
  obtain ⟨W0, hW0⟩ : ∃ W0, ((w.alloc (.cells #[.slice S n cap, .pointer (some ⟨b, o, none⟩), .int .i64 u, .bool h] 76)).alloc (.cells (stepC ⟨kd, i, many, sym⟩ pa pn pc) 47)).alloc (.cells (stepC zSp none 0 0) 47) = W0 := ⟨_, rfl⟩
  have hT : Tri w #[.slice S n cap, .pointer (some ⟨b, o, none⟩), .int .i64 u, .bool h] (stepC ⟨kd, i, many, sym⟩ pa pn pc) W0 := by rw [← hW0]; exact Tri.new _ _ _
  have hsz : W0.heap.size = w.heap.size + 3 := by rw [← hW0]; simp
  have hP0 := hP.below hT.low
  have hN0 := hP0.nd
  have hR0 : RowV W0 g c ks := hR.keep (hT.low.block g hR.lt)
  obtain ⟨y0, y1, y2⟩ := kv_cells hy
  have p0 := hR0.cells y0; have p1 := hR0.cells y1; have p2 := hR0.cells y2
  have d1 := hT.l.v (k := 1) rfl
  have r2 : W0.cell? ⟨w.heap.size + 1, 2, none⟩ = some (.int .i64 i) := hT.r.v rfl
  have e1 := hN0.sym; have e2 := hN0.list
  have hi0 : (0 : Int) ≤ (i : Int) := by omega
  have hin' : (i : Int) < (ks.length : Int) := by omega
  obtain ⟨X, hX⟩ : ∃ X, Obj.cells #[.string ⟨#[]⟩, .int .i64 0, .slice none 0 0] 26 = X := ⟨_, rfl⟩
  have bX := alloc_below0 W0 (Obj.cells #[.string ⟨#[]⟩, .int .i64 0, .slice none 0 0] 26)
  have p0' := below_cell bX _ _ p0; have p1' := below_cell bX _ _ p1; have p2' := below_cell bX _ _ p2
  have d1' := below_cell bX _ _ d1; have r2' := below_cell bX _ _ r2; have e2' := below_cell bX _ _ e2
  have BX := Box.new W0 26 #[.string ⟨#[]⟩, .int .i64 0, .slice none 0 0]
  have x0 := BX.v (k := 0) rfl; have x1 := BX.v (k := 1) rfl; have x2 := BX.v (k := 2) rfl
  have xf0 := BX.f 0; have xf1 := BX.f 1; have xf2 := BX.f 2
  have HSZ := hid hsz
  have HT := hid hT; have HP := hid hP
  clear bX BX hX hsz
  clear hP hT hP0 hN0 hR0 y0 y1 y2 hG hin
  have HKL := hid hkl; have HVL := hid hvl; have HKS := hid hks; have HVS := hid hvs; have HGL := hid hGL; have HB' := hid hB'; have HSR := hid hsrc; have HYK := hid hyk; have HR := hid hR
  have HF : Hid (flatN t ⟨kd, i, many, sym⟩ = (if headed t.1.2 y.tn then some ((t.1, mkF (layL (kidsL t.2) i 1 (kidsL y.l))), ⟨2, i, lenF y.l, 0⟩) else none)) := by
    show _ = _
    unfold flatN
    simp only [Int.toNat_natCast, hyk]
    rfl
  have hyb : Hid (lenF y.l ≤ 1048576) := by show _ ≤ _; have : nodesF y.l + 1 ≤ nodesF t.2 := hyn; omega
  have HLN : Hid (lenF t.2 ≤ 1048576) := by show _ ≤ _; omega
  have HGL2 : Hid (g < w.heap.size) := hR.lt
  have HBL : Hid (b < w.heap.size) := HP.out.lt
  have hbg : b ≠ g := fun e => HP.out.out (e ▸ hAg)
  obtain ⟨W1, hW1⟩ : ∃ W1, (W0.alloc (Obj.cells #[.string y.x.1, .int .i64 y.x.2, .slice y.a (lenF y.l) y.c] 26)).drew = W1 := ⟨_, rfl⟩
  have hb1 : Below W0.heap.size W0 W1 := by rw [← hW1]; exact (alloc_below0 W0 _).drew
  have BY : Box W1 W0.heap.size 26 #[.string y.x.1, .int .i64 y.x.2, .slice y.a (lenF y.l) y.c] := by rw [← hW1]; exact Box.new W0 _ _
  have hne := later_some W1
  have m0 := later_cell (BY.v (k := 0) rfl); have m1 := later_cell (BY.v (k := 1) rfl); have m2 := later_cell (BY.v (k := 2) rfl)
  have n1 := later_cell (below_cell hb1 _ _ d1); have n2 := later_cell (below_cell hb1 _ _ e1)
  have HB1 := hid hb1; have HBY := hid BY
  obtain ⟨fl, hfl⟩ : ∃ fl, flatN t ⟨kd, i, many, sym⟩ = fl := ⟨_, rfl⟩
  rw [hfl] at HF ⊢
  clear hkl hvl hks hvs hGL hB' hsrc hyk hR hb1 BY hfl hlen hyn hyl hylen hlt
  go_enter Tryz.func77, Tryz.ntmps77
  go_wp2_with fail
  go_region
  clear hW1 hW0 x0 x1 x2 xf0 xf1 xf2 p0 p1 p2 p0' p1' p2' d1' r2' e2'
  cases hx : y.x.1.toList.isEmpty
  · go_wp2_with fail
    refine wp_region_later (by kernel_rfl) (by kernel_rfl) ?_
    repeat (go_big_quiet_step (fail))
    refine wpQuiet_nil ?_
    intro _ hw'
    obtain ⟨b2, hw''⟩ := hw'
    subst hw''
    have HZ := hid (((HT.out.z.below HB1.out).below b2.below))
    have z0 := HZ.out.v (k := 0) rfl; have z1 := HZ.out.v (k := 1) rfl; have z2 := HZ.out.v (k := 2) rfl; have z3 := HZ.out.v (k := 3) rfl; have z4 := HZ.out.v (k := 4) rfl
    have f0 := HZ.out.f 0; have f1 := HZ.out.f 1; have f2 := HZ.out.f 2; have f3 := HZ.out.f 3; have f4 := HZ.out.f 4
    go_wp2
    refine ret_step rfl rfl (sets5_box HZ.out _ _ _ _ _) rfl rfl ?_
    exact DeedEnd.not (by rw [HF.out]; unfold headed; rw [show noName y.tn.1.1 = false from hx]; rfl) (sets5_below ((HT.out.low.trans (HB1.out.mono (by have := HSZ.out; omega))).trans (b2.below.mono (by have := HSZ.out; have := HB1.out.size; omega))) (by omega) _ _ _ _ _)
  · by_cases hs : y.x.2 = t.1.2
    · have hs1 : (y.x.2 == t.1.2) = true := by simp [hs]
      have HS := hid hs
      have HX : Hid (noName y.x.1 = true) := hx
      go_wp2_with fail
      refine wp_region_later (by kernel_rfl) (by kernel_rfl) ?_
      repeat (go_big_quiet_step (fail))
      refine wpQuiet_nil ?_
      intro _ hw'
      obtain ⟨b2, hw''⟩ := hw'
      subst hw''
      have hbW : Below w.heap.size w b2.now := (HT.out.low.trans (HB1.out.mono (by have := HSZ.out; omega))).trans (b2.below.mono (by have := HSZ.out; have := HB1.out.size; omega))
      have hbW0 : Below W0.heap.size W0 b2.now := HB1.out.trans (b2.below.mono HB1.out.size)
      have hP2 := HP.out.below hbW
      have hR2 : RowV b2.now g c ks := HR.out.keep (hbW.block g HR.out.lt)
      have hV2 : SrcV b2.now g y.a y.c vs := (HSR.out g (fun h => h.2 rfl)).keep (fun q _ hq => hbW.block q hq)
      have hL := lay_rep S n cap b o u h i 1 y.a y.c vs ks g c cur b2.now hP2.blk hP2.c2 hR2 hV2 hbg (by omega) (by have := HKL.out; omega) (by have := HKL.out; have := HLN.out; omega) (by have := HVL.out; have := hyb.out; omega)
      rw [HVL.out] at hL
      have hTl := HT.out.l.below hbW0
      have hTr := HT.out.r.below hbW0
      have hBY2 := HBY.out.below b2.below
      have q0 := hTl.v (k := 0) rfl; have q1 := hTl.v (k := 1) rfl; have q2 := hTl.v (k := 2) rfl; have q3 := hTl.v (k := 3) rfl
      have q4 : b2.now.cell? ⟨w.heap.size + 1, 2, none⟩ = some (.int .i64 i) := hTr.v rfl
      have q5 := hBY2.v (k := 2) rfl
      have HSZ2 : Hid (W0.heap.size < b2.now.heap.size) := hBY2.lt
      have HTr := hid hTr; have HBY2 := hid hBY2; have HP2 := hid hP2; have HZ := hid (HT.out.z.below hbW0); have HBW := hid hbW
      obtain ⟨W2, hW2⟩ : ∃ W2, b2.now = W2 := ⟨_, rfl⟩
      rw [hW2] at hL q0 q1 q2 q3 q4 q5 HTr HBY2 HP2 HZ HBW HSZ2 ⊢
      have hL2 : Calls Tryz.prog 88 #[placeV S n cap b o u h, .int .i64 i, .int .i64 1, .slice y.a (lenF y.l) y.c] W2 fun e w3 => ∃ v, e = .returned v ∧ w3.cell? ⟨w.heap.size + 1, 2, none⟩ = some (.int .i64 i) ∧ w3.cell? ⟨W0.heap.size, 2, none⟩ = some (.slice y.a (lenF y.l) y.c) ∧ Hid (LayEnd W2 b o cur (some ⟨g, 0, none⟩) (layK ks i (i + 1) vs) w3) ∧ Hid (Box w3 (w.heap.size + 2) 47 (stepC zSp none 0 0)) := by
        refine Calls.mono hL ?_
        rintro e w3 ⟨⟨v, rfl⟩, hE⟩
        have hE' := hE
        obtain ⟨g', c', _, _, hF, _⟩ := hE'
        have hne : ∀ q, w.heap.size ≤ q → ¬ ((some (⟨g, 0, none⟩ : Addr)).map Addr.block = some q ∨ q = b) := fun q hq h => by
          have h1 := HGL2.out
          have h2 := HBL.out
          rcases h with h | h
          · have h : some g = some q := h
            have := Option.some.inj h
            omega
          · omega
        exact ⟨v, rfl, (HTr.out.fr hF (hne _ (by omega))).v rfl, (HBY2.out.fr hF (hne _ (by have := HSZ.out; omega))).v rfl, hE, HZ.out.fr hF (hne _ (by omega))⟩
      have HL2 := hid hL2
      clear hbW hbW0 hP2 hR2 hV2 hTl hTr hBY2 n1 n2 m0 m1 m2 hne hW2 hL hL2
      go_wp2_with (first | (go_at_call 88; refine HL2.out.mono ?_; rintro e w3 ⟨v, rfl, k1, k2, HE, HZ3⟩; have z0 := HZ3.out.v (k := 0) rfl; have z1 := HZ3.out.v (k := 1) rfl; have z2 := HZ3.out.v (k := 2) rfl; have z3 := HZ3.out.v (k := 3) rfl; have z4 := HZ3.out.v (k := 4) rfl; have f0 := HZ3.out.f 0; have f1 := HZ3.out.f 1; have f2 := HZ3.out.f 2; have f3 := HZ3.out.f 3; have f4 := HZ3.out.f 4) | fail)
      refine ret_step rfl rfl (sets5_box HZ3.out _ _ _ _ _) rfl rfl ?_
      have hhd : headed t.1.2 y.tn = true := headed_iff.2 ⟨HX.out, HS.out⟩
      have hfl : fl = some ((t.1, mkF (layL (kidsL t.2) i 1 (kidsL y.l))), ⟨2, i, lenF y.l, 0⟩) := by rw [HF.out, if_pos hhd]
      have hll : (layK ks i (i + 1) vs).length ≤ 2097152 := by
        rw [layK_len (by omega) (by have := HKL.out; omega)]
        have := HKL.out; have := HVL.out; have := hyb.out; have := HLN.out
        omega
      have hBB : ∀ q, (B' q ∧ q < w.heap.size) → q < W2.heap.size ∧ ((some (⟨g, 0, none⟩ : Addr)).map Addr.block ≠ some q) ∧ q ≠ b ∧ (A q ∨ w.heap.size ≤ q) := fun q hq => by
        have hA := HB'.out q hq.1
        refine ⟨Nat.lt_of_lt_of_le hq.2 HBW.out.size, fun h => ?_, fun h => ?_, .inl hA.1⟩
        · have h : some g = some q := h
          exact hA.2 (Option.some.inj h).symm
        · exact HP.out.out (h ▸ hA.1)
      obtain ⟨g', c', hg', hU⟩ := upd_lay (B := fun q => B' q ∧ q < w.heap.size) HP.out HBW.out HE.out ((HGL.out.within fulE).keep fulE (fun q hq hlt => HBW.out.block q hq.2)) hBB (by omega)
      · refine DeedEnd.yes (q := ⟨2, i, lenF y.l, 0⟩) hfl (by rw [layK_map, HKS.out, HVS.out, kids_mk]) (hU.keep (sets5_below (Below.refl 0 w3) (Nat.zero_le _) _ _ _ _ _) (fun q hq => sets5_far ?_ _ _ _ _ _) HBL.out)
        have hw2 := HBW.out.size
        rcases hq with hq | hq
        · omega
        · rcases hq with hq | hq
          · have := hq.2; omega
          · have h1 := HGL2.out
            have h3 := HSZ.out
            have h4 := HSZ2.out
            rcases hg' with h | h
            · have h : some g = some g' := h
              have := Option.some.inj h
              omega
            · omega
    · have hs1 : (y.x.2 == t.1.2) = false := by simp [hs]
      go_wp2_with fail
      refine wp_region_later (by kernel_rfl) (by kernel_rfl) ?_
      repeat (go_big_quiet_step (fail))
      refine wpQuiet_nil ?_
      intro _ hw'
      obtain ⟨b2, hw''⟩ := hw'
      subst hw''
      have HZ := hid (((HT.out.z.below HB1.out).below b2.below))
      have z0 := HZ.out.v (k := 0) rfl; have z1 := HZ.out.v (k := 1) rfl; have z2 := HZ.out.v (k := 2) rfl; have z3 := HZ.out.v (k := 3) rfl; have z4 := HZ.out.v (k := 4) rfl
      have f0 := HZ.out.f 0; have f1 := HZ.out.f 1; have f2 := HZ.out.f 2; have f3 := HZ.out.f 3; have f4 := HZ.out.f 4
      go_wp2
      refine ret_step rfl rfl (sets5_box HZ.out _ _ _ _ _) rfl rfl ?_
      exact DeedEnd.not (by rw [HF.out]; unfold headed; rw [show (y.tn.1.2 == t.1.2) = false from hs1, Bool.and_false]; rfl) (sets5_below ((HT.out.low.trans (HB1.out.mono (by have := HSZ.out; omega))).trans (b2.below.mono (by have := HSZ.out; have := HB1.out.size; omega))) (by omega) _ _ _ _ _)
end Go.Proofs.YtokbgbbkopmngaaGreat
/- slices.Clone of terms; lists of terms apart. -/
namespace Go.Proofs.YtokbgbbkopmngaaGreat
open Go.RowKit Go.Deep

theorem below_grown {w W W' : World} {r : Option Nat} (hb : Below w.heap.size w W) (h : W.grownBy W' r) (hr : ∀ k, r = some k → w.heap.size ≤ k) : Below w.heap.size w W' :=
  hb.trans ⟨h.os, h.tape, h.output, h.size, fun k hk => h.block k (Nat.lt_of_lt_of_le hk hb.size) (fun e => by have := hr k e.symm; omega)⟩
set_option maxRecDepth 100000 in
set_option maxHeartbeats 2000000 in
theorem clone_terms (b o c : Nat) (ks : List Kv) (w : World) (hc : ∀ i u, (kvCells ks)[i]? = some u → w.cell? ⟨b, o + i, none⟩ = some u) (hn : ks.length ≤ 1048576) (h0 : 0 < ks.length) :
    Calls Tryz.prog 89 #[.slice (some ⟨b, o, none⟩) ks.length c] w fun e w' => ∃ h c', e = .returned (.slice (some ⟨h, 0, none⟩) ks.length c') ∧ w.heap.size ≤ h ∧ RowV w' h c' ks ∧ Below w.heap.size w w' := by
  have h1 : (binOp .eql 24 (.slice (some ⟨b, o, none⟩) ks.length c) (.slice none 0 0)).run Tryz.prog w = .ok (.bool false) w := rfl
  have b1 := alloc_below0 w (.cells #[] 26)
  have hE : (w.alloc (.cells #[] 26)).ownsRow w.heap.size 26 3 (.slice (some ⟨w.heap.size, 0, none⟩) 0 0) 0 [] := ⟨rfl, .inr ⟨w.heap.size, 0, #[], rfl, Nat.le_refl _, World.alloc_heap_new w _, Nat.le_refl _, Nat.zero_le _, rfl, rfl⟩⟩
  obtain ⟨i0, hi0, hz0, hz1, hz2⟩ := info_parts Tryz.info26
  obtain ⟨v', w1, hr1, hA1, hG1, _, _⟩ := run_append_own_at (P := Tryz.prog) (w.alloc (.cells #[] 26)) w.heap.size 24 24 26 i0 _ 3 48 Tryz.underlying24 hi0 hz0 hz1 hz2 rfl (by decide) _ 0 [] hE ⟨b, o, none⟩ ks.length c (kvCells ks) (kvCells_len ks)
    (fun j u hu => by rw [Addr.add_lit]; exact below_cell b1 _ _ (hc j u hu)) (kvCells_one ks) (by unfold maxLen; omega) (by omega) b1.size
  have hb1 : Below w.heap.size w w1 := below_grown b1 hG1 (fun k hk => by have h7 : some w.heap.size = some k := hk; have := Option.some.inj h7; omega)
  rw [Nat.zero_add] at hA1
  rw [List.nil_append] at hA1
  obtain ⟨h, c', rfl, hh, hRR⟩ : ∃ h c', v' = .slice (some ⟨h, 0, none⟩) ks.length c' ∧ w.heap.size ≤ h ∧ RowV w1 h c' ks := by
    rcases hA1.2 with ⟨_, h2⟩ | ⟨g', cap', cur, h1, h2, h3, h4, h5, h6, h7⟩
    · omega
    · exact ⟨g', cap', h1, h2, ⟨⟨cur, h3, h6, h7⟩, h4, h5⟩⟩
  have HR := hid hRR; have HB1 := hid hb1; have HH := hid hh
  clear hE hG1 hA1 hb1 b1 hc hRR hh
  go_enter Tryz.func89, Tryz.ntmps89
  go_wp2_with (first
    | (at_builtin; refine Lib.wpList_append_run _ rfl _ _ _ _ rfl _ _ rfl rfl _ _ hr1 ?_; clear hr1)
    | fail)
  go_ret
  exact ⟨h, c', rfl, HH.out, HR.out, HB1.out⟩
theorem gl_split {E : World → Bl → Kv → Prop} {w : World} : ∀ {l1 l2 : List Kv} {A : Bl}, GL E w (l1 ++ l2) A → ∃ A1 A2 : Bl, (∀ q, A1 q → A q) ∧ (∀ q, A2 q → A q ∧ ¬ A1 q) ∧ GL E w l1 A1 ∧ GL E w l2 A2
  | [], l2, A, h => ⟨fun _ => False, A, fun _ h => h.elim, fun _ h => ⟨h, fun h => h⟩, trivial, h⟩
  | k :: r, l2, A, ⟨B1, B2, h1, h2, h3, h4⟩ => by
    obtain ⟨C1, C2, k1, k2, k3, k4⟩ := gl_split (l1 := r) (l2 := l2) h4
    refine ⟨fun q => B1 q ∨ C1 q, C2, fun q hq => ?_, fun q hq => ⟨(h2 q (k2 q hq).1).1, ?_⟩, ⟨B1, C1, fun q hq => .inl hq, fun q hq => ⟨.inr hq, (h2 q (k1 q hq)).2⟩, h3, k3⟩, k4⟩
    · rcases hq with hq | hq
      · exact h1 q hq
      · exact (h2 q (k1 q hq)).1
    · rintro (h | h)
      · exact (h2 q (k2 q hq).1).2 h
      · exact (k2 q hq).2 h
theorem mid_perm (ks : List Kv) (i m : Nat) : List.Perm ks (((ks.drop i).take m) ++ (ks.take i ++ ks.drop (i + m))) := by
  have e : ks = ks.take i ++ ((ks.drop i).take m ++ ks.drop (i + m)) := by rw [← List.drop_drop, List.take_append_drop, List.take_append_drop]
  conv => lhs; rw [e]
  rw [← List.append_assoc, ← List.append_assoc]
  exact List.perm_append_comm.append_right _
/-- Boxes beside what lay turns. -/
theorem lay_far {W2 w3 : World} {b o N : Nat} {cur : Array Value} {a : Option Addr} {ks : List Kv} (hE : LayEnd W2 b o cur a ks w3) (ha : ∀ q, a.map Addr.block = some q → q < N) (hb : b < N) {q : Nat} (hN : N ≤ q) (hq : q < W2.heap.size) : w3.heap[q]? = W2.heap[q]? := by
  obtain ⟨g', c', _, _, hF, _⟩ := hE
  refine hF.same q hq ?_
  rintro (h | h)
  · have := ha q h; omega
  · omega
end Go.Proofs.YtokbgbbkopmngaaGreat
/- The deed swap. -/
namespace Go.Proofs.YtokbgbbkopmngaaGreat
open Go.RowKit Go.Deep

/-- As many terms written over as there were. -/
theorem row_over {W : World} {g c i : Nat} {ks vs : List Kv} (hR : RowV W g c ks) (hi : i + vs.length ≤ ks.length) : RowV (W.setCells g (i * 3) (kvCells vs)) g c (layK ks i (i + vs.length) vs) := by
  obtain ⟨cu, hC, ht⟩ := hR.cur
  have hl := kvCells_len vs
  have hcl := hC.len
  have hf := hR.fits
  have hll := layK_len (ks := ks) (vs := vs) (i := i) (j := i + vs.length) (by omega) hi
  refine (hC.set (o := i * 3) (vs := kvCells vs) (by omega)).rowV ?_ (by omega) hR.small
  unfold layK
  rw [kvCells_append, kvCells_append, ← kvT, ← kvD, ← ht]
  have e : (List.take i ks ++ (vs ++ List.drop (i + vs.length) ks)).length = ks.length := by unfold layK at hll; omega
  rw [e]
  have e2 : (cu.drop (i * 3 + (kvCells vs).length)).take (ks.length * 3 - (i * 3 + (kvCells vs).length)) = (cu.take (ks.length * 3)).drop ((i + vs.length) * 3) := by
    rw [List.drop_take, hl, show i * 3 + vs.length * 3 = (i + vs.length) * 3 by omega]
  have h1 : (cu.take (i * 3)).length = i * 3 := by rw [List.length_take]; omega
  have h2 : (cu.take (i * 3)).take (ks.length * 3) = cu.take (i * 3) := List.take_of_length_le (by omega)
  have h3 : (kvCells vs).take (ks.length * 3 - i * 3) = kvCells vs := List.take_of_length_le (by omega)
  have h4 : (cu.take (ks.length * 3)).take (i * 3) = cu.take (i * 3) := by rw [List.take_take, Nat.min_eq_left (by omega)]
  rw [h4, ← e2]
  unfold ovr
  rw [List.append_assoc, List.take_append, h1, h2, List.take_append, h3, Nat.sub_sub]
theorem RowV.drewR {W : World} {g c : Nat} {ks : List Kv} (h : RowV W g c ks) : RowV W.drew g c ks := h.keep rfl
theorem Fr.drewR {A : Bl} {w W : World} (h : Fr A w W) : Fr A w W.drew := h.trans ⟨(Below.refl _ _).drew, fun _ _ _ => rfl⟩
theorem row_two {W : World} {g c i : Nat} {ks : List Kv} {z y : Kv} (hR : RowV W g c ks) (hi : i + 2 ≤ ks.length) : RowV (W.setCells g (i * 3) (kvCells [z, y])) g c (layK ks i (i + 2) [z, y]) := row_over (vs := [z, y]) hR hi
theorem six_sets (W : World) (g k : Nat) (z y : Kv) : (((((W.setCell ⟨g, k, none⟩ (.string z.x.1)).setCell ⟨g, k + 1, none⟩ (.int .i64 z.x.2)).setCell ⟨g, k + 2, none⟩ (.slice z.a (lenF z.l) z.c)).setCell ⟨g, k + 3, none⟩ (.string y.x.1)).setCell ⟨g, k + 3 + 1, none⟩ (.int .i64 y.x.2)).setCell ⟨g, k + 3 + 2, none⟩ (.slice y.a (lenF y.l) y.c) = W.setCells g k (kvCells [z, y]) := by
  have e : kvCells [z, y] = [.string z.x.1, .int .i64 z.x.2, .slice z.a (lenF z.l) z.c, .string y.x.1, .int .i64 y.x.2, .slice y.a (lenF y.l) y.c] := rfl
  rw [e]
  simp only [World.setCells]
set_option maxRecDepth 100000 in
set_option maxHeartbeats 2000000 in
theorem swap_any (S : Option Addr) (n cap b o : Nat) (u : Int) (h : Bool) (A : Bl) (t : Tn) (a : Option Addr) (c : Nat) (ks : List Kv) (cur : Array Value) (p : Sp) (pa : Option Addr) (pn pc : Nat) (w : World)
    (hP : Pl w b o A t.1 a c ks cur) (hks : ks.map Kv.tn = kidsL t.2) (hin : inI p.at_ (lenF t.2) = true) (hn : nodesF t.2 ≤ 1048576) :
    Calls Tryz.prog 79 #[placeV S n cap b o u h, stepV p pa pn pc] w (DeedEnd w b o A cur (swapN t p)) := by
  obtain ⟨i, hi, hlt⟩ := inI_iff.1 hin
  obtain ⟨kd, at_, many, sym⟩ := p
  simp only at hi hin
  subst hi
  have hkl := kv_len hks
  have hlen := len_nodes t.2
  obtain ⟨y, hy, hyk⟩ := kv_get hks (i := i) (by omega)
  obtain ⟨g, rfl, hAg, hR, hG⟩ : ∃ g, a = some ⟨g, 0, none⟩ ∧ A g ∧ RowV w g c ks ∧ GL FulE w ks (fun q => A q ∧ q ≠ g) := by
    rcases hP.row.row with ⟨rfl, _⟩ | h
    · simp at hy
    · exact h
  obtain ⟨W0, hW0⟩ : ∃ W0, ((w.alloc (.cells #[.slice S n cap, .pointer (some ⟨b, o, none⟩), .int .i64 u, .bool h] 76)).alloc (.cells (stepC ⟨kd, i, many, sym⟩ pa pn pc) 47)).alloc (.cells (stepC zSp none 0 0) 47) = W0 := ⟨_, rfl⟩
  have hT : Tri w #[.slice S n cap, .pointer (some ⟨b, o, none⟩), .int .i64 u, .bool h] (stepC ⟨kd, i, many, sym⟩ pa pn pc) W0 := by rw [← hW0]; exact Tri.new _ _ _
  have hsz : W0.heap.size = w.heap.size + 3 := by rw [← hW0]; simp
  have hP0 := hP.below hT.low
  have hN0 := hP0.nd
  have hR0 : RowV W0 g c ks := hR.keep (hT.low.block g hR.lt)
  have d1 := hT.l.v (k := 1) rfl
  have r2 : W0.cell? ⟨w.heap.size + 1, 2, none⟩ = some (.int .i64 i) := hT.r.v rfl
  have r3 : W0.cell? ⟨w.heap.size + 1, 3, none⟩ = some (.int .i64 many) := hT.r.v rfl
  have e1 := hN0.sym; have e2 := hN0.list
  have hi0 : (0 : Int) ≤ (i : Int) := by omega
  have hin' : (i : Int) < (ks.length : Int) := by omega
  have hbg : b ≠ g := fun e => hP.out (e ▸ hAg)
  have HSZ := hid hsz; have HT := hid hT; have HP := hid hP; have HKS := hid hks; have HR := hid hR; have HKL := hid hkl; have HG := hid hG
  have HLN : Hid (lenF t.2 ≤ 1048576) := by show _ ≤ _; omega
  have HGW : Hid (g < w.heap.size) := hR.lt
  have HBL : Hid (b < w.heap.size) := hP.lt
  have hgf : ∀ k, W0.frozen? ⟨g, k, none⟩ = false := fun k => (hR0.cur).elim fun cu hc => by have := hc.1.row; simp [World.frozen?, this]
  have hwl : IntKind.i64.wrap ((ks.length : Int) - 1) = (ks.length : Int) - 1 := by rw [IntKind.wrap_i64]; omega
  obtain ⟨sw, hsw⟩ : ∃ sw, swapN t ⟨kd, i, many, sym⟩ = sw := ⟨_, rfl⟩
  rw [hsw]
  by_cases hl : i + 1 < ks.length
  · obtain ⟨z, hz, hzk⟩ := kv_get hks (i := i + 1) hl
    have HF : Hid (sw = some ((t.1, mkF (layL (kidsL t.2) i 2 [z.tn, y.tn])), ⟨3, i, 0, 0⟩)) := by
      show _ = _
      rw [← hsw]
      unfold swapN
      simp only [Int.toNat_natCast, hyk, hzk]
    obtain ⟨y0, y1, y2⟩ := kv_cells hy
    obtain ⟨v0, v1, v2⟩ := kv_cells hz
    have p0 := hR0.cells y0; have p1 := hR0.cells y1; have p2 := hR0.cells y2
    have s0 := hR0.cells v0; have s1 := hR0.cells v1; have s2 := hR0.cells v2
    have hne : ¬ ((i : Int) = (ks.length : Int) - 1) := by omega
    have hneb : ((i : Int) == (ks.length : Int) - 1) = false := by simp; omega
    have hw1 : IntKind.i64.wrap ((i : Int) + 1) = (i : Int) + 1 := by rw [IntKind.wrap_i64]; omega
    have hi1 : (0 : Int) ≤ (i : Int) + 1 := by omega
    have hi2 : (i : Int) + 1 < (ks.length : Int) := by omega
    have htn : ((i : Int) + 1).toNat = i + 1 := by omega
    have g0 := hgf (i * 3); have g1 := hgf (i * 3 + 1); have g2 := hgf (i * 3 + 2); have g3 := hgf ((i + 1) * 3); have g4 := hgf ((i + 1) * 3 + 1); have g5 := hgf ((i + 1) * 3 + 2)
    have hgw1 : w.heap.size + 1 ≠ g := by have := hR.lt; omega
    have r2' : (((W0.setCell ⟨g, i * 3, none⟩ (.string z.x.1)).setCell ⟨g, i * 3 + 1, none⟩ (.int .i64 z.x.2)).setCell ⟨g, i * 3 + 2, none⟩ (.slice z.a (lenF z.l) z.c)).cell? ⟨w.heap.size + 1, 2, none⟩ = some (.int .i64 i) :=
      (((hT.r.far hgw1 _ _).far hgw1 _ _).far hgw1 _ _).v rfl
    obtain ⟨W1, hW1⟩ : ∃ W1, ((((((W0.setCell ⟨g, i * 3, none⟩ (.string z.x.1)).setCell ⟨g, i * 3 + 1, none⟩ (.int .i64 z.x.2)).setCell ⟨g, i * 3 + 2, none⟩ (.slice z.a (lenF z.l) z.c)).setCell ⟨g, (i + 1) * 3, none⟩ (.string y.x.1)).setCell ⟨g, (i + 1) * 3 + 1, none⟩ (.int .i64 y.x.2)).setCell ⟨g, (i + 1) * 3 + 2, none⟩ (.slice y.a (lenF y.l) y.c)).drew = W1 := ⟨_, rfl⟩
    have hW1' : W1 = (W0.setCells g (i * 3) (kvCells [z, y])).drew := by
      rw [← hW1, show (i + 1) * 3 = i * 3 + 3 by omega, six_sets]
    have hF1 : Fr (fun q => q = g) W0 W1 := by rw [hW1']; exact (setCells_tc _ _ _).drewR
    have hR1 : RowV W1 g c (layK ks i (i + 2) [z, y]) := by rw [hW1']; exact (row_two hR0 (by omega)).drewR
    have hz1 : Box W1 (w.heap.size + 2) 47 (stepC zSp none 0 0) := hT.z.fr hF1 (by have := hR.lt; omega)
    have hr1 : Box W1 (w.heap.size + 1) 47 (stepC ⟨kd, i, many, sym⟩ pa pn pc) := hT.r.fr hF1 (by have := hR.lt; omega)
    have q2 : W1.cell? ⟨w.heap.size + 1, 2, none⟩ = some (.int .i64 i) := hr1.v rfl
    have z0 := hz1.v (k := 0) rfl; have z1 := hz1.v (k := 1) rfl; have z2 := hz1.v (k := 2) rfl; have z3 := hz1.v (k := 3) rfl; have z4 := hz1.v (k := 4) rfl
    have f0 := hz1.f 0; have f1 := hz1.f 1; have f2 := hz1.f 2; have f3 := hz1.f 3; have f4 := hz1.f 4
    have HR1 := hid hR1; have HF1 := hid hF1; have HZ1 := hid hz1
    have HY := hid hy; have HZ := hid hz; have HL := hid hl
    clear hW1' hF1 hR1 hz1 hr1
    clear hT hP hP0 hN0 hR0 hin hsz hks hR hkl hG hlen hn hlt hyk hzk y0 y1 y2 v0 v1 v2 hsw hgf hl hy hz
    go_enter Tryz.func79, Tryz.ntmps79
    go_wp2_with fail
    go_region
    clear hW1 p0 p1 p2 s0 s1 s2 g0 g1 g2 g3 g4 g5 r2' hW0
    go_wp2
    refine ret_step rfl rfl (sets5_box HZ1.out _ _ _ _ _) rfl rfl ?_
    have hlow : Below 0 w W1 := (HT.out.low.mono (Nat.zero_le _)).trans HF1.out.low
    have hsz0 := HSZ.out
    have hnew : ∀ q, q < w.heap.size → q ≠ g → W1.heap[q]? = w.heap[q]? := fun q hq hne => (HF1.out.same q (by omega) hne).trans (HT.out.low.block q hq)
    have hll : (layK ks i (i + 2) [z, y]).length = ks.length := by rw [layK_len (by omega) (by have := HL.out; omega)]; have := HL.out; simp; omega
    have hperm : List.Perm ks (layK ks i (i + 2) [z, y]) := by
      have e : ks = ks.take i ++ ([y, z] ++ ks.drop (i + 2)) := by
        obtain ⟨h1, h2⟩ := List.getElem?_eq_some_iff.1 HY.out
        obtain ⟨h3, h4⟩ := List.getElem?_eq_some_iff.1 HZ.out
        conv => lhs; rw [← List.take_append_drop i ks, List.drop_eq_getElem_cons h1, h2, List.drop_eq_getElem_cons h3, h4]
        rfl
      conv => lhs; rw [e]
      unfold layK
      exact ((List.Perm.swap _ _ _).append_right _).append_left _
    have hGL : GL FulE W1 (layK ks i (i + 2) [z, y]) (fun q => (A q ∧ q < w.heap.size) ∧ q ≠ g) := ((HG.out.within fulE).keep fulE (fun q hq hlt => hnew q hlt hq.1.2)).perm hperm |>.mono (fun q hq => ⟨⟨hq.1.1, hq.2⟩, hq.1.2⟩)
    have hU : Upd w W1 b o A cur (fun q => A q ∧ q < w.heap.size) t.1 (some ⟨g, 0, none⟩) c (layK ks i (i + 2) [z, y]) := by
      refine ⟨hlow, fun q hq hA _ => hnew q hq (fun e => hA (e ▸ hAg)), fun q hq => .inl hq.1, cur, rfl, fun _ _ => rfl, (hnew b HBL.out hbg).trans HP.out.blk, HP.out.c0, HP.out.c1, by rw [hll]; exact HP.out.c2, ⟨by rw [hll]; exact HP.out.row.few, .inr ⟨g, rfl, ⟨hAg, HGW.out⟩, HR1.out, hGL⟩⟩, fun h => HP.out.out h.1, HP.out.nm⟩
    refine DeedEnd.yes HF.out (by rw [layK_map, HKS.out, kids_mk]; rfl) (hU.keep (sets5_below (Below.refl 0 W1) (Nat.zero_le _) _ _ _ _ _) (fun q hq => sets5_far ?_ _ _ _ _ _) HBL.out)
    rcases hq with hq | hq
    · omega
    · have := hq.2; omega
  · have HF : Hid (sw = none) := by
      show _ = _
      rw [← hsw]
      unfold swapN
      simp only [Int.toNat_natCast, hyk]
      rw [show (kidsL t.2)[i + 1]? = none by rw [← hks]; exact List.getElem?_eq_none (by rw [List.length_map]; omega)]
    have hne : (i : Int) = (ks.length : Int) - 1 := by omega
    have hneb : ((i : Int) == (ks.length : Int) - 1) = true := by simp; omega
    have z0 := HT.out.z.v (k := 0) rfl; have z1 := HT.out.z.v (k := 1) rfl; have z2 := HT.out.z.v (k := 2) rfl; have z3 := HT.out.z.v (k := 3) rfl; have z4 := HT.out.z.v (k := 4) rfl
    have f0 := HT.out.z.f 0; have f1 := HT.out.z.f 1; have f2 := HT.out.z.f 2; have f3 := HT.out.z.f 3; have f4 := HT.out.z.f 4
    clear hT hP hP0 hN0 hR0 hin hsz hks hR hkl hG hlen hn hlt hyk hsw hgf hl hy hne
    go_enter Tryz.func79, Tryz.ntmps79
    go_wp2
    refine ret_step rfl rfl (sets5_box HT.out.z _ _ _ _ _) rfl rfl ?_
    exact DeedEnd.not HF.out (sets5_below HT.out.low (by omega) _ _ _ _ _)
end Go.Proofs.YtokbgbbkopmngaaGreat
/- The deed group. -/
namespace Go.Proofs.YtokbgbbkopmngaaGreat
open Go.RowKit Go.Deep

/-- What is left when some have been made one. -/
theorem group_end {w W0 w2 V w3 : World} {b o : Nat} {A : Bl} {t : Tn} {c : Nat} {ks sub : List Kv} {cur : Array Value} {gr : Option (Tn × Sp)} {i m hh cc g : Nat} {kv : Kv} (hP : Pl w b o A t.1 (some ⟨g, 0, none⟩) c ks cur) (hks : ks.map Kv.tn = kidsL t.2)
    (hF : gr = some ((t.1, mkF (layL (kidsL t.2) i m [((noB, t.1.2), mkF (sub.map Kv.tn))])), ⟨1, i, 0, 0⟩)) (hG : GL FulE w ks (fun q => A q ∧ q ≠ g)) (him : i + m ≤ ks.length) (hsub : (ks.drop i).take m = sub) (hsl : sub.length = m)
    (hbV : Below w.heap.size w V) (hb2 : Below w.heap.size w w2) (hbv : Below w2.heap.size w2 V) (h4 : W0.drew.heap.size ≤ hh) (h5 : RowV w2 hh cc sub) (hE : LayEnd V b o cur (some ⟨g, 0, none⟩) (layK ks i (i + m) [kv]) w3) (hsz : W0.heap.size = w.heap.size + 3)
    (hkv : kv = ⟨(noB, t.1.2), mkF (sub.map Kv.tn), some ⟨hh, 0, none⟩, cc⟩) (hkl : ks.length ≤ 1048576) (hbl : b < w.heap.size) (hgw : g < w.heap.size) (hvl : w2.heap.size < V.heap.size) :
    DeedEnd w b o A cur gr (.returned (.tuple #[stepV ⟨1, i, 0, 0⟩ none 0 0, .bool true])) (((((w3.setCell ⟨w.heap.size + 2, 0, none⟩ (.int .i64 1)).setCell ⟨w.heap.size + 2, 1, none⟩ (.slice none 0 0)).setCell ⟨w.heap.size + 2, 2, none⟩ (.int .i64 i)).setCell ⟨w.heap.size + 2, 3, none⟩ (.int .i64 0)).setCell ⟨w.heap.size + 2, 4, none⟩ (.int .i64 0)) := by
  have h4' : W0.heap.size ≤ hh := h4
  have hhlt := h5.lt
  have hs2 := hb2.size
  obtain ⟨A1, A2, a1, a2, g1, g2⟩ := gl_split ((hG.within fulE).perm (mid_perm ks i m))
  rw [hsub] at g1
  have gV1 : GL FulE V sub (fun q => (A1 q ∨ q = hh) ∧ q ≠ hh) := (g1.keep fulE (fun q hq _ => hbV.block q (a1 q hq).2)).mono (fun q hq => ⟨.inl hq, by have := (a1 q hq).2; omega⟩)
  have gV2 : GL FulE V (ks.take i ++ ks.drop (i + m)) A2 := g2.keep fulE (fun q hq _ => hbV.block q (a2 q hq).1.2)
  have hR5 : RowV V hh cc sub := h5.keep (hbv.block hh hhlt)
  have hRo : RowOf V (fun q => A1 q ∨ q = hh) (some ⟨hh, 0, none⟩) cc sub := ⟨by omega, .inr ⟨hh, rfl, .inr rfl, hR5, gV1⟩⟩
  have hFk : FulE V (fun q => A1 q ∨ q = hh) kv := by
    rw [hkv]
    exact hRo.tm (x := (noB, t.1.2)) (by show (0 : Nat) ≤ _; exact Nat.zero_le _)
  have hdis : ∀ q, (A1 q ∨ q = hh) → ¬ A2 q := fun q hq h2 => by
    rcases hq with hq | hq
    · exact (a2 q h2).2 hq
    · have := (a2 q h2).1.2; omega
  have hGL : GL FulE V (layK ks i (i + m) [kv]) (fun q => (A1 q ∨ q = hh) ∨ A2 q) := by
    refine GL.perm ?_ (GL.cons hFk gV2 hdis)
    unfold layK
    exact List.perm_middle.symm
  have hBB : ∀ q, ((A1 q ∨ q = hh) ∨ A2 q) → q < V.heap.size ∧ ((some (⟨g, 0, none⟩ : Addr)).map Addr.block ≠ some q) ∧ q ≠ b ∧ (A q ∨ w.heap.size ≤ q) := fun q hq => by
    have hold : ((A q ∧ q ≠ g) ∧ q < w.heap.size) ∨ q = hh := by
      rcases hq with (hq | hq) | hq
      · exact .inl (a1 q hq)
      · exact .inr hq
      · exact .inl (a2 q hq).1
    rcases hold with h | h
    · refine ⟨Nat.lt_of_lt_of_le h.2 hbV.size, fun e => ?_, fun e => hP.out (e ▸ h.1.1), .inl h.1.1⟩
      have e : some g = some q := e
      exact h.1.2 (Option.some.inj e).symm
    · subst h
      refine ⟨by omega, fun e => ?_, by omega, .inr (by omega)⟩
      have e : some g = some q := e
      have := Option.some.inj e
      omega
  have hll : (layK ks i (i + m) [kv]).length ≤ 1048577 := by rw [layK_len (by omega) him]; simp; omega
  obtain ⟨g', c', hg', hU⟩ := upd_lay (B := fun q => (A1 q ∨ q = hh) ∨ A2 q) hP hbV hE hGL hBB (by omega)
  refine DeedEnd.yes hF (by rw [layK_map, hks, kids_mk, hkv]; rfl) (hU.keep (sets5_below (Below.refl 0 w3) (Nat.zero_le _) _ _ _ _ _) (fun q hq => sets5_far ?_ _ _ _ _ _) hbl)
  rcases hq with hq | (hq | hq) | hq
  · omega
  · rcases hq with hq | hq
    · have := (a1 q hq).2; omega
    · omega
  · have := (a2 q hq).1.2; omega
  · rcases hg' with h | h
    · have h : some g = some g' := h
      have := Option.some.inj h
      omega
    · omega
set_option maxRecDepth 100000 in
set_option maxHeartbeats 2000000 in
theorem group_any (S : Option Addr) (n cap b o : Nat) (u : Int) (h : Bool) (A : Bl) (t : Tn) (a : Option Addr) (c : Nat) (ks : List Kv) (cur : Array Value) (p : Sp) (pa : Option Addr) (pn pc : Nat) (w : World)
    (hP : Pl w b o A t.1 a c ks cur) (hks : ks.map Kv.tn = kidsL t.2) (hin : inI p.at_ (lenF t.2) = true) (hn : nodesF t.2 ≤ 1048576) :
    Calls Tryz.prog 78 #[placeV S n cap b o u h, stepV p pa pn pc] w (DeedEnd w b o A cur (groupN t p)) := by
  obtain ⟨i, hi, hlt⟩ := inI_iff.1 hin
  obtain ⟨kd, at_, many, sym⟩ := p
  simp only at hi hin
  subst hi
  have hkl := kv_len hks
  have hlen := len_nodes t.2
  obtain ⟨y, hy, hyk⟩ := kv_get hks (i := i) (by omega)
  obtain ⟨g, rfl, hAg, hR, hG⟩ : ∃ g, a = some ⟨g, 0, none⟩ ∧ A g ∧ RowV w g c ks ∧ GL FulE w ks (fun q => A q ∧ q ≠ g) := by
    rcases hP.row.row with ⟨rfl, _⟩ | h
    · simp at hy
    · exact h
  obtain ⟨W0, hW0⟩ : ∃ W0, ((w.alloc (.cells #[.slice S n cap, .pointer (some ⟨b, o, none⟩), .int .i64 u, .bool h] 76)).alloc (.cells (stepC ⟨kd, i, many, sym⟩ pa pn pc) 47)).alloc (.cells (stepC zSp none 0 0) 47) = W0 := ⟨_, rfl⟩
  have hT : Tri w #[.slice S n cap, .pointer (some ⟨b, o, none⟩), .int .i64 u, .bool h] (stepC ⟨kd, i, many, sym⟩ pa pn pc) W0 := by rw [← hW0]; exact Tri.new _ _ _
  have hsz : W0.heap.size = w.heap.size + 3 := by rw [← hW0]; simp
  have hP0 := hP.below hT.low
  have hN0 := hP0.nd
  have hR0 : RowV W0 g c ks := hR.keep (hT.low.block g hR.lt)
  have d1 := hT.l.v (k := 1) rfl
  have r2 : W0.cell? ⟨w.heap.size + 1, 2, none⟩ = some (.int .i64 i) := hT.r.v rfl
  have r3 : W0.cell? ⟨w.heap.size + 1, 3, none⟩ = some (.int .i64 many) := hT.r.v rfl
  have e1 := hN0.sym; have e2 := hN0.list
  have hi0 : (0 : Int) ≤ (i : Int) := by omega
  have hin' : (i : Int) < (ks.length : Int) := by omega
  have hbg : b ≠ g := fun e => hP.out (e ▸ hAg)
  have HSZ := hid hsz; have HT := hid hT; have HP := hid hP; have HKS := hid hks; have HR := hid hR; have HKL := hid hkl; have HG := hid hG
  have HLN : Hid (lenF t.2 ≤ 1048576) := by show _ ≤ _; omega
  have HGW : Hid (g < w.heap.size) := hR.lt
  have HBL : Hid (b < w.heap.size) := hP.lt
  have hgf : ∀ k, W0.frozen? ⟨g, k, none⟩ = false := fun k => (hR0.cur).elim fun cu hc => by have := hc.1.row; simp [World.frozen?, this]
  obtain ⟨gr, hgr⟩ : ∃ gr, groupN t ⟨kd, i, many, sym⟩ = gr := ⟨_, rfl⟩
  rw [hgr]
  have hgr2 := hgr
  unfold groupN at hgr2
  simp only at hgr2
  by_cases h1 : many < 2
  · have HF : Hid (gr = none) := by show _ = _; rw [← hgr2, if_neg (by omega)]
    have z0 := HT.out.z.v (k := 0) rfl; have z1 := HT.out.z.v (k := 1) rfl; have z2 := HT.out.z.v (k := 2) rfl; have z3 := HT.out.z.v (k := 3) rfl; have z4 := HT.out.z.v (k := 4) rfl
    have f0 := HT.out.z.f 0; have f1 := HT.out.z.f 1; have f2 := HT.out.z.f 2; have f3 := HT.out.z.f 3; have f4 := HT.out.z.f 4
    clear hT hP hP0 hN0 hR0 hin hsz hks hR hkl hG hlen hn hlt hyk hgr hgr2 hgf hy
    go_enter Tryz.func78, Tryz.ntmps78
    go_wp2
    refine ret_step rfl rfl (sets5_box HT.out.z _ _ _ _ _) rfl rfl ?_
    exact DeedEnd.not HF.out (sets5_below HT.out.low (by omega) _ _ _ _ _)
  · obtain ⟨m, rfl⟩ : ∃ m : Nat, many = m := ⟨many.toNat, by omega⟩
    by_cases h2 : ks.length ≤ m
    · have HF : Hid (gr = none) := by show _ = _; rw [← hgr2, if_neg (by omega)]
      have h1' : ¬ (m : Int) < 2 := h1
      have h2' : (ks.length : Int) ≤ (m : Int) := by omega
      have z0 := HT.out.z.v (k := 0) rfl; have z1 := HT.out.z.v (k := 1) rfl; have z2 := HT.out.z.v (k := 2) rfl; have z3 := HT.out.z.v (k := 3) rfl; have z4 := HT.out.z.v (k := 4) rfl
      have f0 := HT.out.z.f 0; have f1 := HT.out.z.f 1; have f2 := HT.out.z.f 2; have f3 := HT.out.z.f 3; have f4 := HT.out.z.f 4
      clear hT hP hP0 hN0 hR0 hin hsz hks hR hkl hG hlen hn hlt hyk hgr hgr2 hgf hy h2
      go_enter Tryz.func78, Tryz.ntmps78
      go_wp2
      refine ret_step rfl rfl (sets5_box HT.out.z _ _ _ _ _) rfl rfl ?_
      exact DeedEnd.not HF.out (sets5_below HT.out.low (by omega) _ _ _ _ _)
    · have h1' : ¬ (m : Int) < 2 := h1
      have h2' : ¬ (ks.length : Int) ≤ (m : Int) := by omega
      have hwm : IntKind.i64.wrap ((i : Int) + m) = (i : Int) + m := by rw [IntKind.wrap_i64]; omega
      by_cases h3 : ks.length < i + m
      · have HF : Hid (gr = none) := by show _ = _; rw [← hgr2, if_neg (by omega)]
        have h3' : (ks.length : Int) < (i : Int) + m := by omega
        have z0 := HT.out.z.v (k := 0) rfl; have z1 := HT.out.z.v (k := 1) rfl; have z2 := HT.out.z.v (k := 2) rfl; have z3 := HT.out.z.v (k := 3) rfl; have z4 := HT.out.z.v (k := 4) rfl
        have f0 := HT.out.z.f 0; have f1 := HT.out.z.f 1; have f2 := HT.out.z.f 2; have f3 := HT.out.z.f 3; have f4 := HT.out.z.f 4
        clear hT hP hP0 hN0 hR0 hin hsz hks hR hkl hG hlen hn hlt hyk hgr hgr2 hgf hy h2 h3
        go_enter Tryz.func78, Tryz.ntmps78
        go_wp2
        refine ret_step rfl rfl (sets5_box HT.out.z _ _ _ _ _) rfl rfl ?_
        exact DeedEnd.not HF.out (sets5_below HT.out.low (by omega) _ _ _ _ _)
      · obtain ⟨sub, hsub⟩ : ∃ sub, (ks.drop i).take m = sub := ⟨_, rfl⟩
        have hsl : sub.length = m := by rw [← hsub, List.length_take, List.length_drop]; omega
        have hstn : sub.map Kv.tn = ((kidsL t.2).drop i).take m := by rw [← hsub, List.map_take, List.map_drop, hks]
        have HF : Hid (gr = some ((t.1, mkF (layL (kidsL t.2) i m [((noB, t.1.2), mkF (sub.map Kv.tn))])), ⟨1, i, 0, 0⟩)) := by
          show _ = _
          rw [← hgr2, if_pos (by omega), hstn, Int.toNat_natCast, Int.toNat_natCast]
        have hcs : ∀ k v, (kvCells sub)[k]? = some v → W0.drew.cell? ⟨g, i * 3 + k, none⟩ = some v := fun k v hk => by
          have hkl' : k < m * 3 := by have := (List.getElem?_eq_some_iff.1 hk).1; rw [kvCells_len, hsl] at this; exact this
          refine hR0.cells (j := i * 3 + k) ?_
          rw [← hsub, ← kvT, List.getElem?_take, if_pos (by omega), ← kvD, List.getElem?_drop] at hk
          exact hk
        have hC := clone_terms g (i * 3) (c - i) sub W0.drew hcs (by omega) (by omega)
        rw [hsl] at hC
        have hcf := hR.fits
        have hcc := hR.small
        unfold maxLen at hcc
        have h3' : ¬ (ks.length : Int) < (i : Int) + m := by omega
        have hi3 : (i : Int) ≤ (i : Int) + m := by omega
        have hi4 : (i : Int) + m ≤ (c : Int) := by omega
        have hi5 : ((i : Int) + m).toNat = i + m := by omega
        have hi6 : ¬ c = i := by omega
        have hi7 : i + m - i = m := by omega
        have HC := hid hC; have HSL := hid hsl; have HSUB := hid hsub; have HIM : Hid (i + m ≤ ks.length) := by show _ ≤ _; omega
        have HM2 : Hid (2 ≤ m) := by show _ ≤ _; omega
        clear hT hP hP0 hN0 hR0 hin hsz hks hR hkl hG hlen hn hlt hyk hgr hgr2 hgf hy h2 h3 hC hcs hsl hsub hstn
        go_enter Tryz.func78, Tryz.ntmps78
        go_wp2_with fail
        go_region_held3 (fun w' => w'.cell? ⟨w.heap.size, 1, none⟩ = some (.pointer (some ⟨b, o, none⟩)) ∧ w'.cell? ⟨b, o + 2, none⟩ = some (.slice (some ⟨g, 0, none⟩) ks.length c) ∧ w'.cell? ⟨w.heap.size + 1, 2, none⟩ = some (.int .i64 i) ∧ w'.cell? ⟨w.heap.size + 1, 3, none⟩ = some (.int .i64 m)) ((first | exact ⟨below_cell H6.out _ _ d1, below_cell H6.out _ _ e2, below_cell H6.out _ _ r2, below_cell H6.out _ _ r3⟩ | go_keep | fail))
          ((first | (go_at_call 89; refine HC.out.mono ?_; rintro e w2 ⟨hh, cc, rfl, h4, h5, h6⟩; have H4 := hid h4; have H5 := hid h5; have H6 := hid h6; clear h4 h5 h6) | fail))
        obtain ⟨V, hV⟩ : ∃ V, (w2.alloc (.cells #[.string ⟨#[]⟩, .int .i64 t.1.2, .slice (some ⟨hh, 0, none⟩) m cc] 26)).drew = V := ⟨_, rfl⟩
        have hsz0 := HSZ.out
        have hb2 : Below w.heap.size w w2 := (HT.out.low.drew).trans (H6.out.mono (by show w.heap.size ≤ W0.heap.size; omega))
        have hb20 : Below W0.heap.size W0 w2 := (Below.refl _ W0).drew.trans H6.out
        have hbv : Below w2.heap.size w2 V := by rw [← hV]; exact (alloc_below0 w2 _).drew
        have hbV : Below w.heap.size w V := hb2.trans (hbv.mono hb2.size)
        have hbV0 : Below W0.heap.size W0 V := hb20.trans (hbv.mono hb20.size)
        have hXV : Box V w2.heap.size 26 #[.string ⟨#[]⟩, .int .i64 t.1.2, .slice (some ⟨hh, 0, none⟩) m cc] := by rw [← hV]; exact Box.new w2 26 _
        have hlm : lenF (mkF (sub.map Kv.tn)) = m := by rw [len_mk, List.length_map, HSL.out]
        obtain ⟨kv, hkv⟩ : ∃ kv : Kv, kv = ⟨(noB, t.1.2), mkF (sub.map Kv.tn), some ⟨hh, 0, none⟩, cc⟩ := ⟨_, rfl⟩
        have hRX : RowV V w2.heap.size 1 [kv] := by
          refine ⟨⟨_, hXV, rfl, ?_⟩, by simp, by simp [maxLen]⟩
          rw [hkv]
          show [_, _, _] = [Value.string noB, .int .i64 t.1.2, .slice (some ⟨hh, 0, none⟩) (lenF (mkF (sub.map Kv.tn))) cc]
          rw [hlm]
          rfl
        have hPV := HP.out.below hbV
        have hRV : RowV V g c ks := HR.out.keep (hbV.block g HR.out.lt)
        have hgV : w2.heap.size ≠ g := by have := HGW.out; have := hb2.size; omega
        have hL := lay_rep S n cap b o u h i m (some ⟨w2.heap.size, 0, none⟩) 1 [kv] ks g c cur V hPV.blk hPV.c2 hRV (.inr ⟨_, rfl, hgV, hRX⟩) hbg (by have := HM2.out; omega) HIM.out (by have := HKL.out; have := HLN.out; omega) (by simp)
        have hTl := HT.out.l.below hbV0
        have hTr := HT.out.r.below hbV0
        have hTz := HT.out.z.below hbV0
        have hL2 : Calls Tryz.prog 88 #[placeV S n cap b o u h, .int .i64 i, .int .i64 m, .slice (some ⟨w2.heap.size, 0, none⟩) 1 1] V fun e w3 => ∃ v, e = .returned v ∧ Hid (w3.cell? ⟨w.heap.size, 0, none⟩ = some (.slice S n cap) ∧ w3.cell? ⟨w.heap.size, 1, none⟩ = some (.pointer (some ⟨b, o, none⟩)) ∧ w3.cell? ⟨w.heap.size, 2, none⟩ = some (.int .i64 u) ∧ w3.cell? ⟨w.heap.size, 3, none⟩ = some (.bool h) ∧ w3.cell? ⟨b, o + 1, none⟩ = some (.int .i64 t.1.2) ∧ w3.cell? ⟨w.heap.size + 1, 2, none⟩ = some (.int .i64 i) ∧ w3.cell? ⟨w.heap.size + 1, 3, none⟩ = some (.int .i64 m)) ∧ Hid (LayEnd V b o cur (some ⟨g, 0, none⟩) (layK ks i (i + m) [kv]) w3) ∧ Hid (Box w3 (w.heap.size + 2) 47 (stepC zSp none 0 0)) := by
          refine Calls.mono hL ?_
          rintro e w3 ⟨⟨v, rfl⟩, hE⟩
          have hga : ∀ q, (some (⟨g, 0, none⟩ : Addr)).map Addr.block = some q → q < w.heap.size := fun q hq => by
            have hq : some g = some q := hq
            have := Option.some.inj hq
            have := HGW.out
            omega
          have far : ∀ {q T cs}, w.heap.size ≤ q → Box V q T cs → Box w3 q T cs := fun hq hB => (lay_far hE hga HBL.out hq hB.lt).trans hB
          have hl3 := far (Nat.le_refl _) hTl
          have hr3 := far (by omega) hTr
          refine ⟨v, rfl, ⟨hl3.v rfl, hl3.v rfl, hl3.v rfl, hl3.v rfl, ?_, hr3.v rfl, hr3.v rfl⟩, hE, far (by omega) hTz⟩
          obtain ⟨g', c', _, hbk, _⟩ := hE
          refine cell_box hbk ?_
          rw [Array.getElem?_setIfInBounds, if_neg (by omega)]
          exact HP.out.c1
        have k0 := hTl.v (k := 0) rfl; have k1 := hTl.v (k := 1) rfl; have k2 := hTl.v (k := 2) rfl; have k3 := hTl.v (k := 3) rfl
        have HL2 := hid hL2
        have u0 := (HT.out.l.below hb20).v (k := 0) rfl; have u1 := (HT.out.l.below hb20).v (k := 1) rfl; have u2 := (HT.out.l.below hb20).v (k := 2) rfl; have u3 := (HT.out.l.below hb20).v (k := 3) rfl
        have u4 := below_cell hb20 _ _ e1
        have u5 : w2.cell? ⟨w.heap.size + 1, 2, none⟩ = some (.int .i64 i) := below_cell hb20 _ _ r2
        have u6 : w2.cell? ⟨w.heap.size + 1, 3, none⟩ = some (.int .i64 m) := below_cell hb20 _ _ r3
        have HbV := hid hbV; have Hb2 := hid hb2; have Hhbv := hid hbv; have HKV := hid hkv; have HLM := hid hlm; have HXV := hid hXV
        clear hb2 hb20 hbv hbV hbV0 hXV hRX hPV hRV hgV hL hTl hTr hTz hL2 k0 k1 k2 k3 d1 r2 r3 e1 e2 hlm hW0 HC hsz0 hkv
        go_wp2_with fail
        go_region_held3 (fun w' => w'.cell? ⟨w.heap.size, 0, none⟩ = some (.slice S n cap) ∧ w'.cell? ⟨w.heap.size, 1, none⟩ = some (.pointer (some ⟨b, o, none⟩)) ∧ w'.cell? ⟨w.heap.size, 2, none⟩ = some (.int .i64 u) ∧ w'.cell? ⟨w.heap.size, 3, none⟩ = some (.bool h) ∧ w'.cell? ⟨b, o + 1, none⟩ = some (.int .i64 t.1.2) ∧ w'.cell? ⟨w.heap.size + 1, 2, none⟩ = some (.int .i64 i) ∧ w'.cell? ⟨w.heap.size + 1, 3, none⟩ = some (.int .i64 m))
          ((first | exact K3.out | exact ⟨below_cell Hhbv.out _ _ u0, below_cell Hhbv.out _ _ u1, below_cell Hhbv.out _ _ u2, below_cell Hhbv.out _ _ u3, below_cell Hhbv.out _ _ u4, below_cell Hhbv.out _ _ u5, below_cell Hhbv.out _ _ u6⟩ | go_keep | fail))
          ((first | (go_at_call 88; refine HL2.out.mono ?_; rintro e w3 ⟨v, rfl, K3, HE, HZ3⟩) | fail))
        all_goals
          obtain ⟨_, _, _, _, _, q4, _⟩ := K3.out
          have z0 := HZ3.out.v (k := 0) rfl; have z1 := HZ3.out.v (k := 1) rfl; have z2 := HZ3.out.v (k := 2) rfl; have z3 := HZ3.out.v (k := 3) rfl; have z4 := HZ3.out.v (k := 4) rfl
          have f0 := HZ3.out.f 0; have f1 := HZ3.out.f 1; have f2 := HZ3.out.f 2; have f3 := HZ3.out.f 3; have f4 := HZ3.out.f 4
          clear hV u0 u1 u2 u3 u4 u5 u6
          go_wp2
          refine ret_step rfl rfl (sets5_box HZ3.out _ _ _ _ _) rfl rfl ?_
          exact group_end HP.out HKS.out HF.out HG.out HIM.out HSUB.out HSL.out HbV.out Hb2.out Hhbv.out H4.out H5.out HE.out (by have := HSZ.out; exact this) HKV.out (by have := HKL.out; have := HLN.out; omega) HBL.out HGW.out (by have := HXV.out.lt; exact this)
end Go.Proofs.YtokbgbbkopmngaaGreat
/- What the library says of comparing texts and numbers, laid at this program. -/
namespace Go.Proofs
open Go.Shelf
def Tryz.lays213_ren : Go.Shelf.Ren := ⟨fun | 213 => 82 | 265 => 90 | n => n, fun | 9 => 9 | 3 => 3 | n => n, fun | n => n⟩
open Go.RowKit in
def Tryz.lays106_ren : Go.Shelf.Ren := ⟨fun | 106 => 62 | 213 => 82 | 265 => 90 | n => n, fun | 9 => 9 | 3 => 3 | n => n, fun | n => n⟩
theorem Tryz.lays106 : Go.Proofs.Lays.n106 Tryz.prog Tryz.lays106_ren := {
  mixed := by kernel_rfl
  f106 := Tryz.func62.trans (congrArg some (by kernel_rfl))
  f213 := Tryz.func82.trans (congrArg some (by kernel_rfl))
  f265 := Tryz.func90.trans (congrArg some (by kernel_rfl))
  t3 := Tryz.underlying3
  a3 := Tryz.isAgg3
  z3 := Tryz.sizeOf3
  v3 := Tryz.zeroValue3
  t9 := Tryz.underlying9
  a9 := Tryz.isAgg9
  z9 := Tryz.sizeOf9
  v9 := Tryz.zeroValue9 }
open Go.RowKit in
theorem Tryz.strings_Compare (a b : ByteArray) (w : World) :
    Calls Tryz.prog 62 #[.string a, .string b] w fun e w' => e = .returned (.int .i64 (Lib.compareBytes a.data.toList b.data.toList)) ∧ w' = w := Any.strings_Compare Tryz.lays106 a b w
def Tryz.lays215_ren : Go.Shelf.Ren := ⟨fun | 215 => 83 | n => n, fun | 3 => 3 | 4 => 4 | n => n, fun | n => n⟩
open Go.RowKit in
def Tryz.lays122_ren : Go.Shelf.Ren := ⟨fun | 122 => 63 | 215 => 83 | n => n, fun | 3 => 3 | 4 => 4 | n => n, fun | n => n⟩
theorem Tryz.lays122 : Go.Proofs.Lays.n122 Tryz.prog Tryz.lays122_ren := {
  mixed := by kernel_rfl
  f122 := Tryz.func63.trans (congrArg some (by kernel_rfl))
  f215 := Tryz.func83.trans (congrArg some (by kernel_rfl))
  t3 := Tryz.underlying3
  a3 := Tryz.isAgg3
  z3 := Tryz.sizeOf3
  v3 := Tryz.zeroValue3
  t4 := Tryz.underlying4
  a4 := Tryz.isAgg4
  z4 := Tryz.sizeOf4
  v4 := Tryz.zeroValue4 }
open Go.RowKit in
theorem Tryz.cmp_Compare_int (x y : Int) (w : World) :
    Calls Tryz.prog 63 #[.int .i64 x, .int .i64 y] w fun e w' => e = .returned (.int .i64 (Lib.compareInt x y)) ∧ w' = w := Any.cmp_Compare_int Tryz.lays122 x y w
end Go.Proofs
/- What Compare of package terms answers of any two terms. -/
namespace Go.Proofs.YtokbgbbkopmngaaGreat
open Go.RowKit Go.Deep

/-- Nothing but new blocks. -/
def Grew (w w' : World) : Prop := ∃ os : Array Obj, w' = Sort.grow w os
set_option maxRecDepth 100000 in
theorem Grew.refl (w : World) : Grew w w := ⟨#[], by simp⟩
set_option maxRecDepth 100000 in
theorem Grew.size {w w' : World} (h : Grew w w') : w.heap.size ≤ w'.heap.size := by obtain ⟨os, rfl⟩ := h; simp
set_option maxRecDepth 100000 in
theorem Grew.trans {a b c : World} (h : Grew a b) (k : Grew b c) : Grew a c := by
  obtain ⟨os, rfl⟩ := h; obtain ⟨os', rfl⟩ := k
  exact ⟨os ++ os', by rw [Sort.grow_grow]⟩
set_option maxRecDepth 100000 in
theorem Grew.alloc {w w' : World} (h : Grew w w') (o : Obj) : Grew w (w'.alloc o) := h.trans ⟨#[o], Sort.alloc_eq_grow _ _⟩
set_option maxRecDepth 100000 in
theorem Grew.below {w w' : World} (h : Grew w w') : Below w.heap.size w w' := by
  have hs := h.size
  obtain ⟨os, rfl⟩ := h
  exact ⟨rfl, rfl, rfl, hs, fun k hk => Sort.heap_grow_old w os hk⟩

def CmpOk (k : Nat) : Prop := ∀ (x y : ByteArray × Int) (a a' : Option Addr) (c c' : Nat) (l m : Fo) (w : World), nodesF l ≤ k → TmAt w x a c l → TmAt w y a' c' m →
  Calls Tryz.prog 41 #[.agg #[.string x.1, .int .i64 x.2, .slice a (lenF l) c], .agg #[.string y.1, .int .i64 y.2, .slice a' (lenF m) c']] w
    fun e w' => e = .returned (.int .i64 (cmp1 x y (lenF l) (lenF m) (cmpF l m))) ∧ Grew w w'

set_option maxRecDepth 100000 in
set_option maxHeartbeats 1000000 in
theorem cmpfunc_any (k : Nat) (ih : ∀ j, j < k → CmpOk j) (F G : Fo) (n m c c' : Nat) (hF : nodesF F ≤ k) (hn : n = lenF F) (hm : m = lenF G) (hl : n = m) (hs : n ≤ 9223372036854775807) (a a' : Option Addr) (w : World) (hA : ArgsAt w a F) (hB : ArgsAt w a' G) :
    Calls Tryz.prog 64 #[.slice a n c, .slice a' m c', .func (.func 41) #[] #[]] w fun e w' => e = .returned (.int .i64 (cmpF F G)) ∧ Grew w w' := by
  subst hl
  have HA : Hid (ArgsAt w a F) := hA
  have HB : Hid (ArgsAt w a' G) := hB
  have HN : Hid (n = lenF F) := hn
  have HM : Hid (n = lenF G) := hm
  have IH : Hid (∀ j, j < k → CmpOk j) := ih
  clear hA hB hn hm ih
  go_enter Tryz.func64, Tryz.ntmps64
  go_wp2
  go_loopw [7, 8, 9, 10, 13] (fun _ _ _ _ i w' => ∃ k : Nat, k ≤ n ∧ i = .int .i64 k ∧ Grew w w' ∧ cmpF F G = cmpF (dropF k F) (dropF k G)) (fun _ _ _ _ i _ => n - (intOf i).toNat)
  case atStart => exact ⟨0, Nat.zero_le _, rfl, Grew.refl _, by rw [drop_zero, drop_zero]⟩
  case round =>
    obtain ⟨j, hj, rfl, hb, hcmp⟩ := hrel
    by_cases hlt : j < n
    · obtain ⟨b, o, rfl, hk1⟩ := HA.out.get (by have := HN.out; omega)
      obtain ⟨b', o', rfl, hk2⟩ := HB.out.get (by have := HM.out; omega)
      obtain ⟨x, a1, c1, l1, k1⟩ := hk1.kid (k := j) (by have := HN.out; omega)
      obtain ⟨y, a2, c2, l2, k2⟩ := hk2.kid (k := j) (by have := HM.out; omega)
      have k1' := k1.below hb.below
      have hb1 := hb.alloc (.cells #[.string x.1, .int .i64 x.2, .slice a1 (lenF l1) c1] 26)
      have k2' := k2.below hb1.below
      have p0 := k1'.name; have p1 := k1'.sym; have p2 := k1'.list
      have q0 := k2'.name; have q1 := k2'.sym; have q2 := k2'.list
      have hb2 := hb1.alloc (.cells #[.string y.1, .int .i64 y.2, .slice a2 (lenF l2) c2] 26)
      have HB2 : Hid (Grew w ((wr.alloc (.cells #[.string x.1, .int .i64 x.2, .slice a1 (lenF l1) c1] 26)).alloc (.cells #[.string y.1, .int .i64 y.2, .slice a2 (lenF l2) c2] 26))) := hb2
      have IHc := IH.out (nodesF l1) (by have := k1.less; omega) x y a1 a2 c1 c2 l1 l2 _ (Nat.le_refl _) (k1.below hb2.below).at_ (k2.below hb2.below).at_
      obtain ⟨B1, O1, s1⟩ := k1.split
      obtain ⟨B2, O2, s2⟩ := k2.split
      rw [s1, s2, cmpF] at hcmp
      have HC : Hid (cmpF F G = thenC (cmp1 x y (lenF l1) (lenF l2) (cmpF l1 l2)) (cmpF (dropF (j + 1) F) (dropF (j + 1) G))) := hcmp
      clear k1 k2 k1' k2' hk1 hk2 hcmp hb1 hb2 s1 s2
      go_wp2_with fail
      refine IHc.mono ?_
      rintro e w2 ⟨rfl, hb3⟩
      have HB3 : Hid (Grew w w2) := HB2.out.trans hb3
      clear IHc hb3
      cases hz : (cmp1 x y (lenF l1) (lenF l2) (cmpF l1 l2) != 0)
      · go_wp2
        go_roundw
        case rel => exact ⟨j + 1, by omega, by go_num, HB3.out, by rw [HC.out]; unfold thenC; rw [if_pos (by simpa using hz)]⟩
        case measure => simp [intOf]; omega
      · go_wp2
        go_ret
        refine ⟨?_, HB3.out⟩
        rw [HC.out]; unfold thenC; rw [if_neg (by simpa using hz)]; rfl
    · have hz : cmpF F G = 0 := by
        rw [hcmp, show j = n by omega]
        have e1 := drop_end F
        rw [← HN.out] at e1
        rw [e1]; rfl
      go_wp2
      go_ret
      exact ⟨by rw [hz]; rfl, hb⟩

set_option maxRecDepth 100000 in
set_option maxHeartbeats 1000000 in
theorem compare_all : ∀ k, CmpOk k := by
  intro k
  induction k using Nat.strongRecOn with
  | _ k ih =>
    intro x y a a' c c' l m w hk hA hB
    have HA : Hid (TmAt w x a c l) := hA
    have HB : Hid (TmAt w y a' c' m) := hB
    have IH : Hid (∀ j, j < k → CmpOk j) := ih
    clear hA hB ih
    have hb2 : Grew w ((w.alloc (.cells #[.string x.1, .int .i64 x.2, .slice a (lenF l) c] 26)).alloc (.cells #[.string y.1, .int .i64 y.2, .slice a' (lenF m) c'] 26)) := ((Grew.refl w).alloc _).alloc _
    have HB2 : Hid (Grew w ((w.alloc (.cells #[.string x.1, .int .i64 x.2, .slice a (lenF l) c] 26)).alloc (.cells #[.string y.1, .int .i64 y.2, .slice a' (lenF m) c'] 26))) := hb2
    clear hb2
    cases hx : x.1.toList.isEmpty <;> cases hy : y.1.toList.isEmpty
    · have hr : Hid (cmp1 x y (lenF l) (lenF m) (cmpF l m) = Lib.compareBytes x.1.data.toList y.1.data.toList) := by show _ = _; unfold cmp1 noName cmpS; rw [hx, hy]; rfl
      go_enter Tryz.func41, Tryz.ntmps41
      go_wp2_with fail
      refine (Tryz.strings_Compare _ _ _).mono ?_
      rintro e w2 ⟨rfl, rfl⟩
      go_wp2
      go_ret
      exact ⟨by rw [hr.out]; rfl, HB2.out⟩
    · have hr : Hid (cmp1 x y (lenF l) (lenF m) (cmpF l m) = -1) := by show _ = _; unfold cmp1 noName cmpS; rw [hx, hy]; rfl
      go_enter Tryz.func41, Tryz.ntmps41
      go_wp2
      go_ret
      exact ⟨by rw [hr.out]; rfl, HB2.out⟩
    · have hr : Hid (cmp1 x y (lenF l) (lenF m) (cmpF l m) = 1) := by show _ = _; unfold cmp1 noName cmpS; rw [hx, hy]; rfl
      go_enter Tryz.func41, Tryz.ntmps41
      go_wp2
      go_ret
      exact ⟨by rw [hr.out]; rfl, HB2.out⟩
    · cases hs : (x.2 != y.2)
      · cases hn : ((lenF l : Int) != (lenF m : Int))
        · have hr : Hid (cmp1 x y (lenF l) (lenF m) (cmpF l m) = cmpF l m) := by
            show _ = _; unfold cmp1 noName cmpS; rw [hx, hy]; simp at hs hn; simp [hs]; omega
          have hc := cmpfunc_any k IH.out l m (lenF l) (lenF m) c c' hk rfl rfl (by simp at hn; omega) (by have := HA.out.sizes.len; have := HA.out.sizes.cap; unfold maxLen at *; omega) a a' _ (HA.out.args.below HB2.out.below) (HB.out.args.below HB2.out.below)
          go_enter Tryz.func41, Tryz.ntmps41
          go_wp2_with fail
          refine hc.mono ?_
          rintro e w2 ⟨rfl, hb3⟩
          go_wp2
          go_ret
          exact ⟨by rw [hr.out]; rfl, HB2.out.trans hb3⟩
        · have hr : Hid (cmp1 x y (lenF l) (lenF m) (cmpF l m) = Lib.compareInt (lenF l) (lenF m)) := by
            show _ = _; unfold cmp1 noName cmpS; rw [hx, hy]; simp at hs hn; simp [hs]; omega
          go_enter Tryz.func41, Tryz.ntmps41
          go_wp2_with fail
          refine (Tryz.cmp_Compare_int _ _ _).mono ?_
          rintro e w2 ⟨rfl, rfl⟩
          go_wp2
          go_ret
          exact ⟨by rw [hr.out]; rfl, HB2.out⟩
      · have hr : Hid (cmp1 x y (lenF l) (lenF m) (cmpF l m) = Lib.compareInt x.2 y.2) := by
          show _ = _; unfold cmp1 noName cmpS; rw [hx, hy]; simp at hs; simp [hs]
        go_enter Tryz.func41, Tryz.ntmps41
        go_wp2_with fail
        refine (Tryz.cmp_Compare_int _ _ _).mono ?_
        rintro e w2 ⟨rfl, rfl⟩
        go_wp2
        go_ret
        exact ⟨by rw [hr.out]; rfl, HB2.out⟩
end Go.Proofs.YtokbgbbkopmngaaGreat
/- The deed drop. -/
namespace Go.Proofs.YtokbgbbkopmngaaGreat
open Go.RowKit Go.Deep

theorem cmpInt_ne {a b : Int} (hne : a ≠ b) : Lib.compareInt a b ≠ 0 := by
  intro h
  unfold Lib.compareInt at h
  by_cases e1 : a < b
  · rw [if_pos e1] at h; cases h
  · rw [if_neg e1] at h
    by_cases e2 : a > b
    · rw [if_pos e2] at h; cases h
    · omega
/-- Same of a term and a constant. -/
theorem cmp_const {y : Tn} {uu : Int} : (cmpN y (constT uu) == 0) = isConst y uu := by
  unfold cmpN cmp1 isConst constT
  simp only [noName_noB]
  cases hx : noName y.1.1
  · simp
  · simp only [Bool.true_and]
    by_cases h1 : y.1.2 = uu
    · by_cases h2 : lenF y.2 = 0
      · rw [len_nil h2]
        simp [h1, lenF, cmpF]
      · have h3 : (lenF y.2 == 0) = false := by simp [h2]
        have h4 : Lib.compareInt (lenF y.2) (lenF (BT.nil : Fo)) ≠ 0 := cmpInt_ne (by simp only [lenF]; omega)
        have h5 : ¬ lenF y.2 = lenF (BT.nil : Fo) := h2
        rw [if_neg (by simp), if_neg (by simp), if_pos h1, if_neg h5, h3, Bool.and_false]
        simpa using h4
    · have h3 : (y.1.2 == uu) = false := by simp [h1]
      have h4 : Lib.compareInt y.1.2 uu ≠ 0 := cmpInt_ne h1
      simp [h1, h3, h4]
set_option maxRecDepth 100000 in
set_option maxHeartbeats 2000000 in
theorem same_any (x y : ByteArray × Int) (l m : Fo) (a a' : Option Addr) (c c' : Nat) (w : World) (hA : TmAt w x a c l) (hB : TmAt w y a' c' m) :
    Calls Tryz.prog 27 #[.agg #[.string x.1, .int .i64 x.2, .slice a (lenF l) c], .agg #[.string y.1, .int .i64 y.2, .slice a' (lenF m) c']] w fun e w' => e = .returned (.bool (cmpN (x, l) (y, m) == 0)) ∧ Below w.heap.size w w' := by
  obtain ⟨W0, hW0⟩ : ∃ W0, (w.alloc (.cells #[.string x.1, .int .i64 x.2, .slice a (lenF l) c] 26)).alloc (.cells #[.string y.1, .int .i64 y.2, .slice a' (lenF m) c'] 26) = W0 := ⟨_, rfl⟩
  have hb0 : Below w.heap.size w W0 := by rw [← hW0]; exact (alloc_below0 w _).alloc (by simp) _
  have B0 : Box W0 w.heap.size 26 #[.string x.1, .int .i64 x.2, .slice a (lenF l) c] := by rw [← hW0]; exact (Box.new w 26 _).over _
  have B1 : Box W0 (w.heap.size + 1) 26 #[.string y.1, .int .i64 y.2, .slice a' (lenF m) c'] := by rw [← hW0]; exact box_new (by rw [World.size_alloc]) 26 _
  have hC := compare_all _ x y a a' c c' l m W0 (Nat.le_refl _) (hA.below hb0) (hB.below hb0)
  have a0 := B0.v (k := 0) rfl; have a1 := B0.v (k := 1) rfl; have a2 := B0.v (k := 2) rfl
  have b0 := B1.v (k := 0) rfl; have b1 := B1.v (k := 1) rfl; have b2 := B1.v (k := 2) rfl
  obtain ⟨r, hr⟩ : ∃ r, cmpN (x, l) (y, m) = r := ⟨_, rfl⟩
  rw [hr]
  have hC2 : Calls Tryz.prog 41 #[.agg #[.string x.1, .int .i64 x.2, .slice a (lenF l) c], .agg #[.string y.1, .int .i64 y.2, .slice a' (lenF m) c']] W0 fun e w' => e = .returned (.int .i64 r) ∧ Below W0.heap.size W0 w' := hC.mono fun e w' hh => ⟨by rw [← hr]; exact hh.1, by first | exact hh.2.below | exact hh.2⟩
  have HB := hid hb0
  clear hb0 B0 B1 hA hB hC hr
  go_enter Tryz.func27, Tryz.ntmps27
  go_wp2_with (first | (go_at_call 41; refine hC2.mono ?_; rintro e w2 ⟨rfl, hb2⟩; have HB2 := hid hb2; clear hb2) | fail)
  go_ret
  exact ⟨rfl, HB.out.trans (HB2.out.mono HB.out.size)⟩
end Go.Proofs.YtokbgbbkopmngaaGreat
/- The deed drop. -/
namespace Go.Proofs.YtokbgbbkopmngaaGreat
open Go.RowKit Go.Deep

/-- What is left when the node has become what stood beside the unit. -/
theorem one_end {w V2 : World} {b o : Nat} {A : Bl} {t : Tn} {c : Nat} {ks : List Kv} {cur : Array Value} {dr : Option (Tn × Sp)} {i j g : Nat} {z : Kv} (hP : Pl w b o A t.1 (some ⟨g, 0, none⟩) c ks cur)
    (hF : dr = some (z.tn, ⟨5, i, 1, t.1.2⟩)) (hz : ks[j]? = some z) (hG : GL FulE w ks (fun q => A q ∧ q ≠ g)) (hlow : Below 0 w V2) (hk : ∀ q, q < w.heap.size → q ≠ b → V2.heap[q]? = w.heap[q]?)
    (hblk : V2.heap[b]? = some (.cells (((cur.setIfInBounds o (.string z.x.1)).setIfInBounds (o + 1) (.int .i64 z.x.2)).setIfInBounds (o + 2) (.slice z.a (lenF z.l) z.c)) 26 (0, 0))) :
    DeedEnd w b o A cur dr (.returned (.tuple #[stepV ⟨5, i, 1, t.1.2⟩ none 0 0, .bool true])) (((((V2.setCell ⟨w.heap.size + 2, 0, none⟩ (.int .i64 5)).setCell ⟨w.heap.size + 2, 1, none⟩ (.slice none 0 0)).setCell ⟨w.heap.size + 2, 2, none⟩ (.int .i64 i)).setCell ⟨w.heap.size + 2, 3, none⟩ (.int .i64 1)).setCell ⟨w.heap.size + 2, 4, none⟩ (.int .i64 t.1.2)) := by
  obtain ⟨A1, A2, a1, _, hzF, _⟩ := gl_pick (hG.within fulE) hz
  obtain ⟨vs, k1, k2⟩ := FulTm.open hzF
  have hvl := kv_len k1
  have h0 := (Array.getElem?_eq_some_iff.1 hP.c0).1
  have h2 := (Array.getElem?_eq_some_iff.1 hP.c2).1
  have hU : Upd w V2 b o A cur A1 z.x z.a z.c vs := by
    refine ⟨hlow, fun q hq _ hne => hk q hq hne, fun q hq => .inl (a1 q hq).1.1, _, by simp, fun k hk' => ?_, hblk, ?_, ?_, ?_, k2.keep (fun q hq _ => hk q (a1 q hq).2 (fun e => hP.out (e ▸ (a1 q hq).1.1))), fun h => hP.out (a1 b h).1.1, hzF.sizes.name⟩
    · rw [Array.getElem?_setIfInBounds, if_neg (by omega), Array.getElem?_setIfInBounds, if_neg (by omega), Array.getElem?_setIfInBounds, if_neg (by omega)]
    · rw [Array.getElem?_setIfInBounds, if_neg (by omega), Array.getElem?_setIfInBounds, if_neg (by omega), Array.getElem?_setIfInBounds, if_pos rfl, if_pos h0]
    · rw [Array.getElem?_setIfInBounds, if_neg (by omega), Array.getElem?_setIfInBounds, if_pos rfl, if_pos (by simp; omega)]
    · rw [Array.getElem?_setIfInBounds, if_pos rfl, if_pos (by simp; omega), hvl]
  refine DeedEnd.yes hF k1 (hU.keep (sets5_below (Below.refl 0 V2) (Nat.zero_le _) _ _ _ _ _) (fun q hq => sets5_far ?_ _ _ _ _ _) hP.lt)
  rcases hq with hq | hq
  · omega
  · have := (a1 q hq).2; omega
/-- What is left when one has gone. -/
theorem dropped_end {w V w3 : World} {b o : Nat} {A : Bl} {t : Tn} {c : Nat} {ks : List Kv} {cur : Array Value} {dr : Option (Tn × Sp)} {i g : Nat} {y : Kv} (hP : Pl w b o A t.1 (some ⟨g, 0, none⟩) c ks cur) (hks : ks.map Kv.tn = kidsL t.2)
    (hF : dr = some ((t.1, mkF (layL (kidsL t.2) i 1 [])), ⟨5, i, 0, t.1.2⟩)) (hy : ks[i]? = some y) (hG : GL FulE w ks (fun q => A q ∧ q ≠ g))
    (hbV : Below w.heap.size w V) (hE : LayEnd V b o cur (some ⟨g, 0, none⟩) (layK ks i (i + 1) []) w3) (hkl : ks.length ≤ 1048576) (hbl : b < w.heap.size) (hgw : g < w.heap.size) (hvl : w.heap.size + 2 < V.heap.size) :
    DeedEnd w b o A cur dr (.returned (.tuple #[stepV ⟨5, i, 0, t.1.2⟩ none 0 0, .bool true])) (((((w3.setCell ⟨w.heap.size + 2, 0, none⟩ (.int .i64 5)).setCell ⟨w.heap.size + 2, 1, none⟩ (.slice none 0 0)).setCell ⟨w.heap.size + 2, 2, none⟩ (.int .i64 i)).setCell ⟨w.heap.size + 2, 3, none⟩ (.int .i64 0)).setCell ⟨w.heap.size + 2, 4, none⟩ (.int .i64 t.1.2)) := by
  obtain ⟨A1, A2, a1, a2, _, g2⟩ := gl_pick (hG.within fulE) hy
  have hi : i < ks.length := (List.getElem?_eq_some_iff.1 hy).1
  have gV2 : GL FulE V (layK ks i (i + 1) []) A2 := g2.keep fulE (fun q hq _ => hbV.block q (a2 q hq).1.2)
  have hBB : ∀ q, A2 q → q < V.heap.size ∧ ((some (⟨g, 0, none⟩ : Addr)).map Addr.block ≠ some q) ∧ q ≠ b ∧ (A q ∨ w.heap.size ≤ q) := fun q hq => by
    have h := (a2 q hq).1
    refine ⟨Nat.lt_of_lt_of_le h.2 hbV.size, fun e => ?_, fun e => hP.out (e ▸ h.1.1), .inl h.1.1⟩
    have e : some g = some q := e
    exact h.1.2 (Option.some.inj e).symm
  have hll : (layK ks i (i + 1) []).length ≤ 1048576 := by rw [layK_len (by omega) (by omega)]; simp; omega
  obtain ⟨g', c', hg', hU⟩ := upd_lay (B := A2) hP hbV hE gV2 hBB (by omega)
  refine DeedEnd.yes hF (by rw [layK_map, hks, kids_mk]; rfl) (hU.keep (sets5_below (Below.refl 0 w3) (Nat.zero_le _) _ _ _ _ _) (fun q hq => sets5_far ?_ _ _ _ _ _) hbl)
  rcases hq with hq | hq | hq
  · omega
  · have := (a2 q hq).1.2; omega
  · rcases hg' with h | h
    · have h : some g = some g' := h
      have := Option.some.inj h
      omega
    · omega
set_option maxRecDepth 100000 in
set_option maxHeartbeats 2000000 in
theorem drop_any (S : Option Addr) (n cap b o : Nat) (u : Int) (h : Bool) (A : Bl) (t : Tn) (a : Option Addr) (c : Nat) (ks : List Kv) (cur : Array Value) (p : Sp) (pa : Option Addr) (pn pc : Nat) (w : World)
    (hP : Pl w b o A t.1 a c ks cur) (hks : ks.map Kv.tn = kidsL t.2) (hin : inI p.at_ (lenF t.2) = true) (hn : nodesF t.2 ≤ 1048576) :
    Calls Tryz.prog 80 #[placeV S n cap b o u h, stepV p pa pn pc] w (DeedEnd w b o A cur (dropN t u p)) := by
  obtain ⟨i, hi, hlt⟩ := inI_iff.1 hin
  obtain ⟨kd, at_, many, sym⟩ := p
  simp only at hi hin
  subst hi
  have hkl := kv_len hks
  have hlen := len_nodes t.2
  obtain ⟨y, hy, hyk⟩ := kv_get hks (i := i) (by omega)
  obtain ⟨g, rfl, hAg, hR, hG⟩ : ∃ g, a = some ⟨g, 0, none⟩ ∧ A g ∧ RowV w g c ks ∧ GL FulE w ks (fun q => A q ∧ q ≠ g) := by
    rcases hP.row.row with ⟨rfl, _⟩ | h
    · simp at hy
    · exact h
  obtain ⟨W0, hW0⟩ : ∃ W0, ((w.alloc (.cells #[.slice S n cap, .pointer (some ⟨b, o, none⟩), .int .i64 u, .bool h] 76)).alloc (.cells (stepC ⟨kd, i, many, sym⟩ pa pn pc) 47)).alloc (.cells (stepC zSp none 0 0) 47) = W0 := ⟨_, rfl⟩
  have hT : Tri w #[.slice S n cap, .pointer (some ⟨b, o, none⟩), .int .i64 u, .bool h] (stepC ⟨kd, i, many, sym⟩ pa pn pc) W0 := by rw [← hW0]; exact Tri.new _ _ _
  have hsz : W0.heap.size = w.heap.size + 3 := by rw [← hW0]; simp
  have hP0 := hP.below hT.low
  have hN0 := hP0.nd
  have hR0 : RowV W0 g c ks := hR.keep (hT.low.block g hR.lt)
  have d1 := hT.l.v (k := 1) rfl
  have r2 : W0.cell? ⟨w.heap.size + 1, 2, none⟩ = some (.int .i64 i) := hT.r.v rfl
  have r3 : W0.cell? ⟨w.heap.size + 1, 3, none⟩ = some (.int .i64 many) := hT.r.v rfl
  have e1 := hN0.sym; have e2 := hN0.list
  have hi0 : (0 : Int) ≤ (i : Int) := by omega
  have hin' : (i : Int) < (ks.length : Int) := by omega
  have hbg : b ≠ g := fun e => hP.out (e ▸ hAg)
  have HSZ := hid hsz; have HT := hid hT; have HP := hid hP; have HKS := hid hks; have HR := hid hR; have HKL := hid hkl; have HG := hid hG
  have HLN : Hid (lenF t.2 ≤ 1048576) := by show _ ≤ _; omega
  have HGW : Hid (g < w.heap.size) := hR.lt
  have HBL : Hid (b < w.heap.size) := hP.lt
  have hgf : ∀ k, W0.frozen? ⟨g, k, none⟩ = false := fun k => (hR0.cur).elim fun cu hc => by have := hc.1.row; simp [World.frozen?, this]
  obtain ⟨dr, hdr⟩ : ∃ dr, dropN t u ⟨kd, i, many, sym⟩ = dr := ⟨_, rfl⟩
  rw [hdr]
  have hdr2 : dr = (if isConst y.tn u then (if lenF t.2 = 2 then ((kidsL t.2)[1 - i]?).map fun z => (z, ⟨5, i, 1, t.1.2⟩) else some ((t.1, mkF (layL (kidsL t.2) i 1 [])), ⟨5, i, 0, t.1.2⟩)) else none) := by
    rw [← hdr]
    unfold dropN
    simp only [Int.toNat_natCast, hyk]
  obtain ⟨y0, y1, y2⟩ := kv_cells hy
  have p0 := hR0.cells y0; have p1 := hR0.cells y1; have p2 := hR0.cells y2
  obtain ⟨Ay, _, hyF⟩ := hG.mem (List.mem_of_getElem? hy)
  have hyT : TmAt W0 y.x y.a y.c y.l := (FulTm.tm hyF).below hT.low
  obtain ⟨r, hr⟩ : ∃ r, isConst y.tn u = r := ⟨_, rfl⟩
  have HS : Hid (∀ W', Below W0.heap.size W0 W' → Calls Tryz.prog 27 #[.agg #[.string y.x.1, .int .i64 y.x.2, .slice y.a (lenF y.l) y.c], .agg #[.string ⟨#[]⟩, .int .i64 u, .slice none 0 0]] W' fun e w' => e = .returned (.bool r) ∧ Below W'.heap.size W' w') := fun W' hb => by
    have hC := same_any y.x (noB, u) y.l .nil y.a none y.c 0 W' (hyT.below hb) ⟨⟨Nat.zero_le _, Nat.le_refl _, Nat.zero_le _, by simp [lenF]⟩, .inl rfl⟩
    have e : (cmpN (y.x, y.l) ((noB, u), .nil) == 0) = r := by rw [← hr]; exact cmp_const
    rw [e] at hC
    exact hC
  rw [hr] at hdr2
  have hne := later_some W0
  have dd1 := later_cell d1; have rr2 := later_cell r2; have ee2 := later_cell e2
  have pp0 := later_cell p0; have pp1 := later_cell p1; have pp2 := later_cell p2
  have dd2 := later_cell (hT.l.v (k := 2) rfl)
  have HD := hid hdr2; have HY := hid hy
  clear hT hP hP0 hN0 hR0 hin hsz hks hR hkl hG hlen hn hlt hyk hdr hdr2 hgf hy y0 y1 y2 hyF hyT hr p0 p1 p2
  go_enter Tryz.func80, Tryz.ntmps80
  go_wp2_with fail
  clear hW0
  refine wp_region_later (by kernel_rfl) (by kernel_rfl) ?_
  repeat (go_big_quiet_step (first | (go_at_call 27; refine calls_later (HS.out _ ?_); exact Later.below _) | fail))
  refine wpQuiet_nil ?_
  intro _ hw'
  obtain ⟨b2, hw''⟩ := hw'
  subst hw''
  have hbW0 : Below W0.heap.size W0 b2.now := b2.below
  obtain ⟨W2, hW2⟩ : ∃ W2, b2.now = W2 := ⟨_, rfl⟩
  rw [hW2] at hbW0 ⊢
  have hsz0 := HSZ.out
  have hbW : Below w.heap.size w W2 := HT.out.low.trans (hbW0.mono (by omega))
  have HW2S : Hid (w.heap.size + 3 ≤ W2.heap.size) := by show _ ≤ _; have := hbW0.size; omega
  have hTl := HT.out.l.below hbW0; have hTr := HT.out.r.below hbW0; have hTz := HT.out.z.below hbW0
  have d1 := hTl.v (k := 1) rfl
  have r2 := below_cell hbW0 _ _ r2; have e1 := below_cell hbW0 _ _ e1; have e2 := below_cell hbW0 _ _ e2
  clear dd1 dd2 rr2 ee2 pp0 pp1 pp2 hW2 hne
  cases r
  · have HF : Hid (dr = none) := HD.out
    have z0 := hTz.v (k := 0) rfl; have z1 := hTz.v (k := 1) rfl; have z2 := hTz.v (k := 2) rfl; have z3 := hTz.v (k := 3) rfl; have z4 := hTz.v (k := 4) rfl
    have f0 := hTz.f 0; have f1 := hTz.f 1; have f2 := hTz.f 2; have f3 := hTz.f 3; have f4 := hTz.f 4
    have HTz := hid hTz; have HbW := hid hbW
    clear hTl hTr hTz hbW hbW0
    go_wp2
    refine ret_step rfl rfl (sets5_box HTz.out _ _ _ _ _) rfl rfl ?_
    exact DeedEnd.not HF.out (sets5_below HbW.out (by omega) _ _ _ _ _)
  · have bX := alloc_below0 W2 (Obj.cells #[.int .i64 0, .slice none 0 0, .int .i64 0, .int .i64 0, .int .i64 0] 47)
    have BX := Box.new W2 47 #[.int .i64 0, .slice none 0 0, .int .i64 0, .int .i64 0, .int .i64 0]
    have d1' := below_cell bX _ _ d1; have r2' := below_cell bX _ _ r2; have e1' := below_cell bX _ _ e1
    have x0 := BX.v (k := 0) rfl; have x1 := BX.v (k := 1) rfl; have x2 := BX.v (k := 2) rfl; have x3 := BX.v (k := 3) rfl; have x4 := BX.v (k := 4) rfl
    have xf0 := BX.f 0; have xf1 := BX.f 1; have xf2 := BX.f 2; have xf3 := BX.f 3; have xf4 := BX.f 4
    obtain ⟨V, hV⟩ : ∃ V, (W2.alloc (.cells #[.int .i64 5, .slice none 0 0, .int .i64 i, .int .i64 0, .int .i64 t.1.2] 47)).drew = V := ⟨_, rfl⟩
    have hbv : Below W2.heap.size W2 V := by rw [← hV]; exact (alloc_below0 W2 _).drew
    have hbV : Below w.heap.size w V := hbW.trans (hbv.mono hbW.size)
    have hbV0 : Below W0.heap.size W0 V := hbW0.trans (hbv.mono hbW0.size)
    have hXV : Box V W2.heap.size 47 #[.int .i64 5, .slice none 0 0, .int .i64 i, .int .i64 0, .int .i64 t.1.2] := by rw [← hV]; exact Box.new W2 47 _
    have hTlV := HT.out.l.below hbV0; have hTrV := HT.out.r.below hbV0; have hTzV := HT.out.z.below hbV0
    have v0 := hTlV.v (k := 0) rfl; have v1 := hTlV.v (k := 1) rfl; have v2 := hTlV.v (k := 2) rfl; have v3 := hTlV.v (k := 3) rfl
    have vr2 : V.cell? ⟨w.heap.size + 1, 2, none⟩ = some (.int .i64 i) := hTrV.v rfl
    have ve2 := below_cell hbv _ _ e2
    have HXV := hid hXV; have HbV := hid hbV; have Hbv := hid hbv; have HTzV := hid hTzV; have HTrV := hid hTrV; have HTlV := hid hTlV; have HbW := hid hbW
    clear bX BX hTl hTr hTz hbW hbW0 hbv hbV hbV0 hXV hTlV hTrV hTzV
    go_wp2_with fail
    go_region
    clear hV x0 x1 x2 x3 x4 xf0 xf1 xf2 xf3 xf4 d1' r2' e1' d1 r2 e1 e2
    by_cases h2 : ks.length = 2
    · obtain ⟨z, hz, hzk⟩ := kv_get HKS.out (i := 1 - i) (by omega)
      have HF : Hid (dr = some (z.tn, ⟨5, i, 1, t.1.2⟩)) := by
        exact ((HD.out.trans (if_pos (by first | rfl | trivial))).trans (if_pos (by have := HKL.out; omega))).trans (by rw [hzk]; rfl)
      have hRV : RowV V g c ks := HR.out.keep (HbV.out.block g HR.out.lt)
      obtain ⟨t0, t1, t2⟩ := kv_cells hz
      have hbw2 := HbW.out.size
      have hgw := HGW.out
      have hbl := HBL.out
      have hw2s := HW2S.out
      have s0 := hRV.cells t0; have s1 := hRV.cells t1; have s2 := hRV.cells t2
      have hPV := HP.out.below HbV.out
      have hNV := hPV.nd
      have bf0 := hPV.f o; have bf1 := hPV.f (o + 1); have bf2 := hPV.f (o + 2)
      have be0 := hNV.name; have be1 := hNV.sym
      obtain ⟨V1, hV1⟩ : ∃ V1, V.setCell ⟨W2.heap.size, 3, none⟩ (.int .i64 1) = V1 := ⟨_, rfl⟩
      have hF1 : Fr (fun q => q = W2.heap.size) V V1 := by rw [← hV1]; exact ⟨(Below.refl 0 V).setCell (p := ⟨W2.heap.size, 3, none⟩) (Nat.zero_le _) _, fun q _ hq => set_far hq _⟩
      have hX1 : Box V1 W2.heap.size 47 #[.int .i64 5, .slice none 0 0, .int .i64 i, .int .i64 1, .int .i64 t.1.2] := by rw [← hV1]; exact HXV.out.set 3 (.int .i64 1)
      have x3 := HXV.out.v (k := 3) rfl
      have xf3 := HXV.out.f 3
      have kb : ∀ q, q ≠ W2.heap.size → V1.heap[q]? = V.heap[q]? := fun q hq => by rw [← hV1]; exact set_far hq _
      have hbW2 : b ≠ W2.heap.size := by omega
      have hgW2 : g ≠ W2.heap.size := by omega
      have cb : ∀ k v, V.cell? ⟨b, k, none⟩ = some v → V1.cell? ⟨b, k, none⟩ = some v := fun k v hv => (World.cell?_of_block (kb b hbW2)).trans hv
      have cg : ∀ k v, V.cell? ⟨g, k, none⟩ = some v → V1.cell? ⟨g, k, none⟩ = some v := fun k v hv => (World.cell?_of_block (kb g hgW2)).trans hv
      have n0 := cb _ _ be0; have n1 := cb _ _ be1; have n2 := cb _ _ ve2
      have m0 := cg _ _ s0; have m1 := cg _ _ s1; have m2 := cg _ _ s2
      have hl1 := HTlV.out.fr hF1 (by omega)
      have hr1 := HTrV.out.fr hF1 (by omega)
      have hz1 := HTzV.out.fr hF1 (by have := HXV.out.lt; have := HSZ.out; omega)
      have w1 := hl1.v (k := 1) rfl
      have w2 : V1.cell? ⟨w.heap.size + 1, 2, none⟩ = some (.int .i64 i) := hr1.v rfl
      have hblk1 : V1.heap[b]? = some (.cells cur 26 (0, 0)) := (kb b hbW2).trans hPV.blk
      have nf0 : V1.frozen? ⟨b, o, none⟩ = false := by simp [World.frozen?, hblk1]
      have nf1 : V1.frozen? ⟨b, o + 1, none⟩ = false := by simp [World.frozen?, hblk1]
      have nf2 : V1.frozen? ⟨b, o + 2, none⟩ = false := by simp [World.frozen?, hblk1]
      obtain ⟨V2, hV2⟩ : ∃ V2, (((V1.setCell ⟨b, o, none⟩ (.string z.x.1)).setCell ⟨b, o + 1, none⟩ (.int .i64 z.x.2)).setCell ⟨b, o + 2, none⟩ (.slice z.a (lenF z.l) z.c)).drew = V2 := ⟨_, rfl⟩
      have hblk2 : V2.heap[b]? = some (.cells (((cur.setIfInBounds o (.string z.x.1)).setIfInBounds (o + 1) (.int .i64 z.x.2)).setIfInBounds (o + 2) (.slice z.a (lenF z.l) z.c)) 26 (0, 0)) := by rw [← hV2]; exact block_set (block_set (block_set hblk1 _) _) _
      have kb2 : ∀ q, q ≠ b → V2.heap[q]? = V1.heap[q]? := fun q hq => by rw [← hV2]; exact ((set_far hq _).trans (set_far hq _)).trans (set_far hq _)
      have hX2 : Box V2 W2.heap.size 47 #[.int .i64 5, .slice none 0 0, .int .i64 i, .int .i64 1, .int .i64 t.1.2] := (kb2 _ (by omega)).trans hX1
      have hZ2 : Box V2 (w.heap.size + 2) 47 (stepC zSp none 0 0) := (kb2 _ (by omega)).trans hz1
      have k0 := hX2.v (k := 0) rfl; have k1 := hX2.v (k := 1) rfl; have k2 := hX2.v (k := 2) rfl; have k3 := hX2.v (k := 3) rfl; have k4 := hX2.v (k := 4) rfl
      have z0 := hZ2.v (k := 0) rfl; have z1 := hZ2.v (k := 1) rfl; have z2 := hZ2.v (k := 2) rfl; have z3 := hZ2.v (k := 3) rfl; have z4 := hZ2.v (k := 4) rfl
      have f0 := hZ2.f 0; have f1 := hZ2.f 1; have f2 := hZ2.f 2; have f3 := hZ2.f 3; have f4 := hZ2.f 4
      have hlow2 : Below 0 V V2 := by rw [← hV2]; exact hF1.low.trans (((((Below.refl 0 V1).setCell (p := ⟨b, o, none⟩) (Nat.zero_le _) _).setCell (p := ⟨b, o + 1, none⟩) (Nat.zero_le _) _).setCell (p := ⟨b, o + 2, none⟩) (Nat.zero_le _) _).drew)
      have HLW := hid hlow2; have HBK2 := hid hblk2; have HZ2 := hid hZ2; have HZ := hid hz
      have HK2 : Hid (∀ q, q < w.heap.size → q ≠ b → V2.heap[q]? = w.heap[q]?) := fun q hq hne => ((kb2 q hne).trans (kb q (by omega))).trans (HbV.out.block q hq)
      have h2b : ((ks.length : Int) == 2) = true := by simp [h2]
      have h2n : (ks.length : Int) = 2 := by omega
      have hj : ∃ j : Nat, j = 1 - i := ⟨_, rfl⟩
      obtain ⟨j, hj⟩ := hj
      rw [← hj] at m0 m1 m2
      have hwj : IntKind.i64.wrap ((1 : Int) - (i : Int)) = (j : Int) := by rw [IntKind.wrap_i64]; omega
      have hj0 : (0 : Int) ≤ (j : Int) := by omega
      have hj1 : (j : Int) < (ks.length : Int) := by omega
      have HH2 := hid h2
      clear hRV hPV hNV t0 t1 t2 s0 s1 s2 be0 be1 bf0 bf1 bf2 hF1 hX1 kb hbW2 hgW2 cb cg hl1 hr1 hz1 hblk1 hblk2 kb2 hX2 hZ2 hlow2 hz hzk h2 hj
      go_wp2_with fail
      go_region
      clear hV1 hV2 m0 m1 m2 n0 n1 n2 nf0 nf1 nf2 x3 xf3 w1 w2
      go_wp2
      refine ret_step rfl rfl (sets5_box HZ2.out _ _ _ _ _) rfl rfl ?_
      exact one_end HP.out HF.out HZ.out HG.out ((HbV.out.mono (Nat.zero_le _)).trans HLW.out) HK2.out HBK2.out
    · have h2b : ((ks.length : Int) == 2) = false := by simp; omega
      have h2n : ¬ (ks.length : Int) = 2 := by omega
      have HF : Hid (dr = some ((t.1, mkF (layL (kidsL t.2) i 1 [])), ⟨5, i, 0, t.1.2⟩)) := by
        exact (HD.out.trans (if_pos (by first | rfl | trivial))).trans (if_neg (by have := HKL.out; omega))
      have hPV := HP.out.below HbV.out
      have hRV : RowV V g c ks := HR.out.keep (HbV.out.block g HR.out.lt)
      have hL := lay_rep S n cap b o u h i 1 none 0 [] ks g c cur V hPV.blk hPV.c2 hRV (.inl ⟨rfl, rfl⟩) hbg (by omega) (by omega) (by have := HKL.out; have := HLN.out; omega) (by simp)
      have hL2 : Calls Tryz.prog 88 #[placeV S n cap b o u h, .int .i64 i, .int .i64 1, .slice none 0 0] V fun e w3 => ∃ v, e = .returned v ∧ w3.cell? ⟨W2.heap.size, 0, none⟩ = some (.int .i64 5) ∧ w3.cell? ⟨W2.heap.size, 1, none⟩ = some (.slice none 0 0) ∧ w3.cell? ⟨W2.heap.size, 2, none⟩ = some (.int .i64 i) ∧ w3.cell? ⟨W2.heap.size, 3, none⟩ = some (.int .i64 0) ∧ w3.cell? ⟨W2.heap.size, 4, none⟩ = some (.int .i64 t.1.2) ∧ Hid (LayEnd V b o cur (some ⟨g, 0, none⟩) (layK ks i (i + 1) []) w3) ∧ Hid (Box w3 (w.heap.size + 2) 47 (stepC zSp none 0 0)) := by
        refine Calls.mono hL ?_
        rintro e w3 ⟨⟨v, rfl⟩, hE⟩
        have hga : ∀ q, (some (⟨g, 0, none⟩ : Addr)).map Addr.block = some q → q < w.heap.size := fun q hq => by
          have hq : some g = some q := hq
          have := Option.some.inj hq
          have := HGW.out
          omega
        have far : ∀ {q T cs}, w.heap.size ≤ q → Box V q T cs → Box w3 q T cs := fun hq hB => (lay_far hE hga HBL.out hq hB.lt).trans hB
        have hl3 := far HbW.out.size HXV.out
        exact ⟨v, rfl, hl3.v rfl, hl3.v rfl, hl3.v rfl, hl3.v rfl, hl3.v rfl, hE, far (by omega) HTzV.out⟩
      have HL2 := hid hL2
      clear hPV hRV hL hL2 h2
      go_wp2_with (first | (go_at_call 88; refine HL2.out.mono ?_; rintro e w3 ⟨v, rfl, k0, k1, k2, k3, k4, HE, HZ3⟩; have z0 := HZ3.out.v (k := 0) rfl; have z1 := HZ3.out.v (k := 1) rfl; have z2 := HZ3.out.v (k := 2) rfl; have z3 := HZ3.out.v (k := 3) rfl; have z4 := HZ3.out.v (k := 4) rfl; have f0 := HZ3.out.f 0; have f1 := HZ3.out.f 1; have f2 := HZ3.out.f 2; have f3 := HZ3.out.f 3; have f4 := HZ3.out.f 4) | fail)
      refine ret_step rfl rfl (sets5_box HZ3.out _ _ _ _ _) rfl rfl ?_
      exact dropped_end HP.out HKS.out HF.out HY.out HG.out HbV.out HE.out (by have := HKL.out; have := HLN.out; omega) HBL.out HGW.out (by have := HbW.out.size; have := HXV.out.lt; have := HSZ.out; have := HTzV.out.lt; omega)
end Go.Proofs.YtokbgbbkopmngaaGreat
/- The deed grow. -/
namespace Go.Proofs.YtokbgbbkopmngaaGreat
open Go.RowKit Go.Deep

theorem RowOf.tmL {w : World} {A : Bl} {x : ByteArray × Int} {a : Option Addr} {c : Nat} {ks : List Kv} {l : Fo} (h : RowOf w A a c ks) (hx : x.1.size ≤ maxLen) (hks : ks.map Kv.tn = kidsL l) : FulTm w A x a c l := by
  have hlm : lenF l = ks.length := (kv_len hks).symm
  rcases h.row with ⟨rfl, rfl, rfl⟩ | ⟨g, rfl, hg, hR, hG⟩
  · have e : l = .nil := len_nil hlm
    subst e
    exact ⟨⟨hx, by simp [lenF], Nat.zero_le _, by simp [lenF]⟩, .inl ⟨rfl, rfl, rfl⟩⟩
  · obtain ⟨cur, r1, r2, r3⟩ := hR.row
    refine ⟨⟨hx, by rw [hlm]; exact hR.fits, hR.small, by rw [hlm]; exact h.few⟩, .inr ⟨g, cur, rfl, hg, r1, r2, ?_⟩⟩
    refine fulKids_of _ ks _ 0 hks (fun j u hu => ?_) hG
    rw [Nat.zero_add]
    exact hR.cells hu
theorem RowOf.owns {w : World} {A : Bl} {a : Option Addr} {c : Nat} {ks : List Kv} (h : RowOf w A a c ks) : w.ownsRow 0 26 3 (.slice a ks.length c) ks.length (kvCells ks) := by
  rcases h.row with ⟨rfl, rfl, rfl⟩ | ⟨g, rfl, _, hR, _⟩
  · exact ⟨rfl, .inl ⟨rfl, rfl⟩⟩
  · exact hR.owns (Nat.zero_le _)
theorem RowOf.gl {w : World} {A : Bl} {a : Option Addr} {c : Nat} {ks : List Kv} (h : RowOf w A a c ks) : GL FulE w ks (fun q => A q ∧ a.map Addr.block ≠ some q) := by
  rcases h.row with ⟨rfl, _, _⟩ | ⟨g, rfl, _, _, hG⟩
  · trivial
  · exact hG.mono (fun q hq => ⟨hq.1, fun e => by have e : some g = some q := e; exact hq.2 (Option.some.inj e).symm⟩)
theorem RowOf.blk {w : World} {A : Bl} {a : Option Addr} {c : Nat} {ks : List Kv} (h : RowOf w A a c ks) {q : Nat} (hq : a.map Addr.block = some q) : A q ∧ q < w.heap.size := by
  rcases h.row with ⟨_, rfl, _⟩ | ⟨g, rfl, hg, hR, _⟩
  · cases hq
  · have e : some g = some q := hq
    have := Option.some.inj e
    subst this
    exact ⟨hg, hR.lt⟩
def unitK (u : Int) : Kv := ⟨(noB, u), .nil, none, 0⟩
theorem unitK_ful (w : World) (u : Int) : FulE w (fun _ => False) (unitK u) := ⟨⟨by show (0 : Nat) ≤ _; exact Nat.zero_le _, Nat.le_refl _, Nat.zero_le _, Nat.zero_le _⟩, .inl ⟨rfl, rfl, rfl⟩⟩
theorem gl_unit {w : World} {ks : List Kv} {B : Bl} (h : GL FulE w ks B) (i : Nat) (u : Int) : GL FulE w (ks.take i ++ unitK u :: ks.drop i) B := by
  refine GL.perm List.perm_middle.symm ?_
  rw [List.take_append_drop]
  exact ⟨fun _ => False, B, fun _ h => h.elim, fun q hq => ⟨hq, fun h => h⟩, unitK_ful w u, h⟩
/-- Behind a change of the node alone. -/
theorem upd_after {w V W' : World} {b o : Nat} {A A3 A' : Bl} {cur cur3 : Array Value} {x : ByteArray × Int} {a : Option Addr} {c : Nat} {ks : List Kv} (h : Upd V W' b o A3 cur3 A' x a c ks) (hl : Below 0 w V) (hs : ∀ q, q < w.heap.size → q ≠ b → V.heap[q]? = w.heap[q]?)
    (hA : ∀ q, A3 q → A q ∨ w.heap.size ≤ q) (hz : cur3.size = cur.size) (hc : ∀ k, k < o ∨ o + 3 ≤ k → cur3[k]? = cur[k]?) : Upd w W' b o A cur A' x a c ks := by
  obtain ⟨cur', h1, h2, h3⟩ := h.node
  have hsz := hl.size
  refine ⟨hl.trans h.low, fun q hq hn hne => (h.same q (by omega) (fun h' => ?_) hne).trans (hs q hq hne), fun q hq => ?_, cur', h1.trans hz, fun k hk => (h2 k hk).trans (hc k hk), h3⟩
  · rcases hA q h' with h4 | h4
    · exact hn h4
    · omega
  · rcases h.new q hq with h4 | h4
    · exact hA q h4
    · exact .inr (by omega)
def cur3 (cur : Array Value) (o : Nat) (x : ByteArray × Int) (v : Value) : Array Value := ((cur.setIfInBounds o (.string x.1)).setIfInBounds (o + 1) (.int .i64 x.2)).setIfInBounds (o + 2) v
theorem cur3_out {cur : Array Value} {o : Nat} {x : ByteArray × Int} {v : Value} (k : Nat) (hk : k < o ∨ o + 3 ≤ k) : (cur3 cur o x v)[k]? = cur[k]? := by
  unfold cur3
  rw [Array.getElem?_setIfInBounds, if_neg (by omega), Array.getElem?_setIfInBounds, if_neg (by omega), Array.getElem?_setIfInBounds, if_neg (by omega)]
theorem cur3_size {cur : Array Value} {o : Nat} {x : ByteArray × Int} {v : Value} : (cur3 cur o x v).size = cur.size := by unfold cur3; simp
/-- The node, written over. -/
theorem pl_over {w V : World} {b o : Nat} {A A3 : Bl} {x x3 : ByteArray × Int} {a a3 : Option Addr} {c c3 : Nat} {ks ks3 : List Kv} {cur : Array Value} (hP : Pl w b o A x a c ks cur) (hblk : V.heap[b]? = some (.cells (cur3 cur o x3 (.slice a3 ks3.length c3)) 26 (0, 0))) (hr : RowOf V A3 a3 c3 ks3) (ho : ¬ A3 b) (hx : x3.1.size ≤ maxLen) : Pl V b o A3 x3 a3 c3 ks3 (cur3 cur o x3 (.slice a3 ks3.length c3)) := by
  have h0 := (Array.getElem?_eq_some_iff.1 hP.c0).1
  have h2 := (Array.getElem?_eq_some_iff.1 hP.c2).1
  refine ⟨hblk, ?_, ?_, ?_, hr, ho, hx⟩ <;> unfold cur3
  · rw [Array.getElem?_setIfInBounds, if_neg (by omega), Array.getElem?_setIfInBounds, if_neg (by omega), Array.getElem?_setIfInBounds, if_pos rfl, if_pos h0]
  · rw [Array.getElem?_setIfInBounds, if_neg (by omega), Array.getElem?_setIfInBounds, if_pos rfl, if_pos (by simp; omega)]
  · rw [Array.getElem?_setIfInBounds, if_pos rfl, if_pos (by simp; omega)]
/-- What is left when a unit more is laid in. -/
theorem grow_end {w V w5 : World} {b o : Nat} {A A3 : Bl} {x x3 : ByteArray × Int} {a a3 : Option Addr} {c c3 : Nat} {ks ks3 : List Kv} {cur : Array Value} {gr : Option (Tn × Sp)} {i : Nat} {k : Int} {t' : Tn} (hP : Pl w b o A x a c ks cur)
    (hPl : Pl V b o A3 x3 a3 c3 ks3 (cur3 cur o x3 (.slice a3 ks3.length c3))) (hF : gr = some (t', ⟨4, i, 0, 0⟩)) (ht1 : t'.1 = x3) (ht2 : kidsL t'.2 = layL (ks3.map Kv.tn) i 0 [constT k]) (hlow : Below 0 w V) (hk : ∀ q, q < w.heap.size → q ≠ b → V.heap[q]? = w.heap[q]?)
    (hA : ∀ q, A3 q → (A q ∧ q < w.heap.size) ∨ w.heap.size + 2 < q) (hE : LayEnd V b o (cur3 cur o x3 (.slice a3 ks3.length c3)) a3 (ks3.take i ++ unitK k :: ks3.drop i) w5) (hl : ks3.length ≤ 1048576) (hi : i ≤ ks3.length) (hs : w.heap.size + 2 < V.heap.size) :
    DeedEnd w b o A cur gr (.returned (.tuple #[stepV ⟨4, i, 0, 0⟩ none 0 0, .bool true])) (((((w5.setCell ⟨w.heap.size + 2, 0, none⟩ (.int .i64 4)).setCell ⟨w.heap.size + 2, 1, none⟩ (.slice none 0 0)).setCell ⟨w.heap.size + 2, 2, none⟩ (.int .i64 i)).setCell ⟨w.heap.size + 2, 3, none⟩ (.int .i64 0)).setCell ⟨w.heap.size + 2, 4, none⟩ (.int .i64 0)) := by
  have hbl := hP.lt
  have hG := gl_unit (hPl.row.gl.within fulE) i k
  have hll : (ks3.take i ++ unitK k :: ks3.drop i).length ≤ 1048577 := by simp; omega
  have hBB : ∀ q, ((A3 q ∧ a3.map Addr.block ≠ some q) ∧ q < V.heap.size) → q < V.heap.size ∧ (a3.map Addr.block ≠ some q) ∧ q ≠ b ∧ (A3 q ∨ V.heap.size ≤ q) := fun q hq => ⟨hq.2, hq.1.2, fun e => hPl.out (e ▸ hq.1.1), .inl hq.1.1⟩
  obtain ⟨g', c', hg', hU⟩ := upd_lay (B := fun q => (A3 q ∧ a3.map Addr.block ≠ some q) ∧ q < V.heap.size) hPl (Below.refl _ V) hE hG hBB (by omega)
  have hU2 := upd_after (A := A) (cur := cur) hU hlow hk (fun q hq => (hA q hq).imp And.left (fun h => by omega)) cur3_size (fun k hk => cur3_out k hk)
  rw [← ht1] at hU2
  refine DeedEnd.yes hF ?_ (hU2.keep (sets5_below (Below.refl 0 w5) (Nat.zero_le _) _ _ _ _ _) (fun q hq => sets5_far ?_ _ _ _ _ _) hbl)
  · rw [ht2]
    unfold layL
    rw [Nat.add_zero, List.map_append, List.map_cons, List.map_take, List.map_drop]
    rfl
  · rcases hq with hq | hq | hq
    · omega
    · rcases hA q hq.1.1 with h | h <;> omega
    · subst hq
      rcases hg' with h | h
      · rcases hA _ (hPl.row.blk h).1 with h2 | h2 <;> omega
      · omega
set_option maxRecDepth 100000 in
set_option maxHeartbeats 2000000 in
theorem grow_any (S : Option Addr) (n cap b o : Nat) (u : Int) (h : Bool) (L : List Sym) (A : Bl) (t : Tn) (a : Option Addr) (c : Nat) (ks : List Kv) (cur : Array Value) (p : Sp) (pa : Option Addr) (pn pc : Nat) (w : World)
    (hS : SigAt w S n L) (hP : Pl w b o A t.1 a c ks cur) (hks : ks.map Kv.tn = kidsL t.2) (hn : nodesF t.2 ≤ 1048576) :
    Calls Tryz.prog 81 #[placeV S n cap b o u h, stepV p pa pn pc] w (DeedEnd w b o A cur (growN (sgOf L) t p)) := by
  obtain ⟨kd, at_, many, sym⟩ := p
  have hkl := kv_len hks
  have hlen := len_nodes t.2
  obtain ⟨W0, hW0⟩ : ∃ W0, ((w.alloc (.cells #[.slice S n cap, .pointer (some ⟨b, o, none⟩), .int .i64 u, .bool h] 76)).alloc (.cells (stepC ⟨kd, at_, many, sym⟩ pa pn pc) 47)).alloc (.cells (stepC zSp none 0 0) 47) = W0 := ⟨_, rfl⟩
  have hT : Tri w #[.slice S n cap, .pointer (some ⟨b, o, none⟩), .int .i64 u, .bool h] (stepC ⟨kd, at_, many, sym⟩ pa pn pc) W0 := by rw [← hW0]; exact Tri.new _ _ _
  have hsz : W0.heap.size = w.heap.size + 3 := by rw [← hW0]; simp
  have hU := sunit_any S n cap L sym W0 (hS.below hT.low)
  have d0 := hT.l.v (k := 0) rfl
  have r4 := hT.r.v (k := 4) rfl
  obtain ⟨gr, hgr⟩ : ∃ gr, growN (sgOf L) t ⟨kd, at_, many, sym⟩ = gr := ⟨_, rfl⟩
  rw [hgr]
  have HSZ := hid hsz; have HT := hid hT; have HP := hid hP; have HKS := hid hks; have HKL := hid hkl; have HGR := hid hgr
  have HLN : Hid (lenF t.2 ≤ 1048576) := by show _ ≤ _; omega
  have HBL : Hid (b < w.heap.size) := hP.lt
  clear hT hP hsz hks hkl hlen hn hgr hS
  go_enter Tryz.func81, Tryz.ntmps81
  go_wp2_with fail
  clear hW0
  refine hU.mono ?_
  rintro e w1 ⟨he, hb1⟩
  unfold UnitRet at he
  subst he
  have hsz0 := HSZ.out
  have hbw : Below w.heap.size w w1 := HT.out.low.trans (hb1.mono (by omega))
  have hl1 := HT.out.l.below hb1; have hr1 := HT.out.r.below hb1; have hz1 := HT.out.z.below hb1
  have hws : w.heap.size + 3 ≤ w1.heap.size := by have := hb1.size; omega
  have hP1 := HP.out.below hbw
  have HP1 := hid hP1; have HL1 := hid hl1; have HR1 := hid hr1; have HZ1 := hid hz1; have HWS := hid hws; have HBW := hid hbw
  clear hU d0 r4
  cases hu : unitAt L sym with
  | none =>
    have hok : unitOk L sym = false := by unfold unitOk; rw [hu]; rfl
    have HF : Hid (gr = none) := by
      show _ = _
      rw [← HGR.out]
      unfold growN
      have e : (sgOf L).unit sym = none := by show (unitAt L sym).map _ = none; rw [hu]; rfl
      simp only [e]
    have z0 := hz1.v (k := 0) rfl; have z1 := hz1.v (k := 1) rfl; have z2 := hz1.v (k := 2) rfl; have z3 := hz1.v (k := 3) rfl; have z4 := hz1.v (k := 4) rfl
    have f0 := hz1.f 0; have f1 := hz1.f 1; have f2 := hz1.f 2; have f3 := hz1.f 3; have f4 := hz1.f 4
    rw [hok]
    clear hl1 hr1 hz1 hP1 hbw hws hb1 hok hu hsz0
    go_wp2
    refine ret_step rfl rfl (sets5_box HZ1.out _ _ _ _ _) rfl rfl ?_
    exact DeedEnd.not HF.out (sets5_below HBW.out (by omega) _ _ _ _ _)
  | some k =>
    have hok : unitOk L sym = true := by unfold unitOk; rw [hu]; rfl
    have hui : unitI L sym = (k : Int) := by unfold unitI; rw [hu]
    have e : (sgOf L).unit sym = some (k : Int) := by show (unitAt L sym).map _ = _; rw [hu]; rfl
    have HG2 : Hid (gr = (if many = 1 then (if 0 ≤ at_ ∧ at_ ≤ 1 then some (((noB, sym), mkF (layL [t] at_.toNat 0 [constT k])), ⟨4, at_, 0, 0⟩) else none)
        else if many = 0 then (if headed sym t = true ∧ 0 ≤ at_ ∧ at_ ≤ lenF t.2 then some ((t.1, mkF (layL (kidsL t.2) at_.toNat 0 [constT k])), ⟨4, at_, 0, 0⟩) else none) else none)) := by
      show _ = _
      rw [← HGR.out]
      unfold growN
      simp only [e]
    rw [hok, hui]
    have c1 := hl1.v (k := 1) rfl
    have nn := hP1.nd
    have n0 := nn.name; have n1 := nn.sym; have n2 := nn.list
    have r3 := hr1.v (k := 3) rfl
    obtain ⟨V0, hV0⟩ : ∃ V0, w1.alloc (.cells #[.string t.1.1, .int .i64 t.1.2, .slice a ks.length c] 26) = V0 := ⟨_, rfl⟩
    have hb0 : Below w1.heap.size w1 V0 := by rw [← hV0]; exact alloc_below0 _ _
    have hX0 : Box V0 w1.heap.size 26 #[.string t.1.1, .int .i64 t.1.2, .slice a ks.length c] := by rw [← hV0]; exact Box.new _ _ _
    have hs0 : V0.heap.size = w1.heap.size + 1 := by rw [← hV0]; simp
    have hlV := hl1.below hb0; have hrV := hr1.below hb0; have hzV := hz1.below hb0
    have hPV := hP1.below hb0
    have hbV : Below w.heap.size w V0 := hbw.trans (hb0.mono hbw.size)
    have v3 : V0.cell? ⟨w.heap.size + 1, 3, none⟩ = some (.int .i64 many) := hrV.v rfl
    have v4 : V0.cell? ⟨w.heap.size + 1, 4, none⟩ = some (.int .i64 sym) := hrV.v rfl
    have v2 : V0.cell? ⟨w.heap.size + 1, 2, none⟩ = some (.int .i64 at_) := hrV.v rfl
    have o0 := hX0.v (k := 0) rfl; have o1 := hX0.v (k := 1) rfl; have o2 := hX0.v (k := 2) rfl
    have HLV := hid hlV; have HRV := hid hrV; have HZV := hid hzV; have HPV := hid hPV; have HBV := hid hbV; have HX0 := hid hX0; have HS0 := hid hs0
    clear hok hui e hu hsz0 hb1 hl1 hr1 hz1 hP1 hbw hws nn hb0 hX0 hs0 hlV hrV hzV hPV hbV
    by_cases hm1 : many = 1
    · subst hm1
      have HG3 : Hid (gr = (if 0 ≤ at_ ∧ at_ ≤ 1 then some (((noB, sym), mkF (layL [t] at_.toNat 0 [constT k])), ⟨4, at_, 0, 0⟩) else none)) := by
        have := HG2.out
        exact this.trans (if_pos rfl)
      obtain ⟨V1, hV1⟩ : ∃ V1, V0.alloc (.cells #[.string t.1.1, .int .i64 t.1.2, .slice a ks.length c] 26) = V1 := ⟨_, rfl⟩
      have hb1 : Below V0.heap.size V0 V1 := by rw [← hV1]; exact alloc_below0 _ _
      have hRb : Box V1 V0.heap.size 26 #[.string t.1.1, .int .i64 t.1.2, .slice a ks.length c] := by rw [← hV1]; exact Box.new _ _ _
      have hXb := HX0.out.below hb1
      obtain ⟨V2, hV2⟩ : ∃ V2, ((V1.setCell ⟨w1.heap.size, 0, none⟩ (.string ⟨#[]⟩)).setCell ⟨w1.heap.size, 1, none⟩ (.int .i64 sym)).setCell ⟨w1.heap.size, 2, none⟩ (.slice (some ⟨V0.heap.size, 0, none⟩) 1 1) = V2 := ⟨_, rfl⟩
      have hF2 : Fr (fun q => q = w1.heap.size) V1 V2 := by rw [← hV2]; exact Fr.sets (A := fun q => q = w1.heap.size) rfl _ _ _ _ _ _
      have hX2 : Box V2 w1.heap.size 26 #[.string ⟨#[]⟩, .int .i64 sym, .slice (some ⟨V0.heap.size, 0, none⟩) 1 1] := by rw [← hV2]; exact block_set (k := 2) (block_set (k := 1) (block_set (k := 0) hXb _) _) _
      have hs0 := HS0.out; have hws := HWS.out; have hbl := HBL.out
      have hR2 := hRb.fr hF2 (by omega)
      have hl2 := (HLV.out.below hb1).fr hF2 (by omega); have hr2 := (HRV.out.below hb1).fr hF2 (by omega); have hz2 := (HZV.out.below hb1).fr hF2 (by omega)
      have hPk : ∀ q, q < w.heap.size → V2.heap[q]? = w.heap[q]? := fun q hq => ((hF2.same q (by have := hb1.size; omega) (by omega)).trans (hb1.block q (by omega))).trans (HBV.out.block q hq)
      have hlow : Below 0 w V2 := ((HBV.out.mono (Nat.zero_le _)).trans (hb1.mono (Nat.zero_le _))).trans hF2.low
      have hsV : V2.heap.size = w1.heap.size + 2 := by rw [← hV2, ← hV1]; simp; omega
      have xb0 := hXb.v (k := 0) rfl; have xb1 := hXb.v (k := 1) rfl; have xb2 := hXb.v (k := 2) rfl
      have xf0 := hXb.f 0; have xf1 := hXb.f 1; have xf2 := hXb.f 2
      have q0 := hX2.v (k := 0) rfl; have q1 := hX2.v (k := 1) rfl; have q2 := hX2.v (k := 2) rfl
      have g2 : V2.cell? ⟨w.heap.size + 1, 2, none⟩ = some (.int .i64 at_) := hr2.v rfl
      have g4 : V2.cell? ⟨w.heap.size + 1, 4, none⟩ = some (.int .i64 sym) := hr2.v rfl
      have hse : (sym == sym) = true := by simp
      have HR2 := hid hR2; have HL2 := hid hl2; have HRR2 := hid hr2; have HZ2 := hid hz2; have HPK := hid hPk; have HLOW := hid hlow; have HX2 := hid hX2; have HSV := hid hsV
      by_cases ha : at_ < 0
      · have HF : Hid (gr = none) := HG3.out.trans (if_neg (by omega))
        have z0 := hz2.v (k := 0) rfl; have z1 := hz2.v (k := 1) rfl; have z2 := hz2.v (k := 2) rfl; have z3 := hz2.v (k := 3) rfl; have z4 := hz2.v (k := 4) rfl
        have f0 := hz2.f 0; have f1 := hz2.f 1; have f2 := hz2.f 2; have f3 := hz2.f 3; have f4 := hz2.f 4
        clear hb1 hRb hXb hF2 hX2 hs0 hws hbl hR2 hl2 hr2 hz2 hPk hlow hsV
        go_wp2
        refine ret_step rfl rfl (sets5_box HZ2.out _ _ _ _ _) rfl rfl ?_
        exact DeedEnd.not HF.out (sets5_below ⟨HLOW.out.os, HLOW.out.tape, HLOW.out.output, HLOW.out.size, fun q hq => HPK.out q hq⟩ (by omega) _ _ _ _ _)
      · by_cases hb : 1 < at_
        · have HF : Hid (gr = none) := HG3.out.trans (if_neg (by omega))
          have z0 := hz2.v (k := 0) rfl; have z1 := hz2.v (k := 1) rfl; have z2 := hz2.v (k := 2) rfl; have z3 := hz2.v (k := 3) rfl; have z4 := hz2.v (k := 4) rfl
          have f0 := hz2.f 0; have f1 := hz2.f 1; have f2 := hz2.f 2; have f3 := hz2.f 3; have f4 := hz2.f 4
          clear hb1 hRb hXb hF2 hX2 hs0 hws hbl hR2 hl2 hr2 hz2 hPk hlow hsV
          go_wp2
          refine ret_step rfl rfl (sets5_box HZ2.out _ _ _ _ _) rfl rfl ?_
          exact DeedEnd.not HF.out (sets5_below ⟨HLOW.out.os, HLOW.out.tape, HLOW.out.output, HLOW.out.size, fun q hq => HPK.out q hq⟩ (by omega) _ _ _ _ _)
        · obtain ⟨i, rfl⟩ : ∃ i : Nat, at_ = i := ⟨at_.toNat, by omega⟩
          have HF : Hid (gr = some (((noB, sym), mkF (layL [t] i 0 [constT k])), ⟨4, i, 0, 0⟩)) := by
            have := HG3.out.trans (if_pos (by omega))
            rw [Int.toNat_natCast] at this
            exact this
          have hPw := HP.out
          obtain ⟨V3, hV3⟩ : ∃ V3, ((V2.setCell ⟨b, o, none⟩ (.string ⟨#[]⟩)).setCell ⟨b, o + 1, none⟩ (.int .i64 sym)).setCell ⟨b, o + 2, none⟩ (.slice (some ⟨V0.heap.size, 0, none⟩) 1 1) = V3 := ⟨_, rfl⟩
          have hblkX : V2.heap[b]? = some (.cells cur 26 (0, 0)) := (HPK.out b HBL.out).trans hPw.blk
          have bx0 : V2.cell? ⟨b, o, none⟩ = some (.string t.1.1) := cell_box hblkX hPw.c0
          have bx1 : V2.cell? ⟨b, o + 1, none⟩ = some (.int .i64 t.1.2) := cell_box hblkX hPw.c1
          have bx2 : V2.cell? ⟨b, o + 2, none⟩ = some (.slice a ks.length c) := cell_box hblkX hPw.c2
          have by0 : V2.frozen? ⟨b, o, none⟩ = false := by simp [World.frozen?, hblkX]
          have by1 : V2.frozen? ⟨b, o + 1, none⟩ = false := by simp [World.frozen?, hblkX]
          have by2 : V2.frozen? ⟨b, o + 2, none⟩ = false := by simp [World.frozen?, hblkX]
          have lX1 := HL2.out.v (k := 1) rfl
          have hbl := HBL.out; have hws := HWS.out; have hsx := HSV.out
          have hF3 : Fr (fun q => q = b) V2 V3 := by rw [← hV3]; exact Fr.sets (A := fun q => q = b) rfl _ _ _ _ _ _
          have hblk3 : V3.heap[b]? = some (.cells (cur3 cur o ((noB, sym) : ByteArray × Int) (.slice (some ⟨V0.heap.size, 0, none⟩) 1 1)) 26 (0, 0)) := by rw [← hV3]; exact block_set (k := o + 2) (block_set (k := o + 1) (block_set (k := o) hblkX _) _) _
          have hs3 : V3.heap.size = V2.heap.size := by rw [← hV3]; simp
          obtain ⟨V4, hV4⟩ : ∃ V4, V3.alloc (.cells #[.string ⟨#[]⟩, .int .i64 k, .slice none 0 0] 26) = V4 := ⟨_, rfl⟩
          have hb4 : Below V3.heap.size V3 V4 := by rw [← hV4]; exact alloc_below0 _ _
          have hU4 : Box V4 V3.heap.size 26 #[.string ⟨#[]⟩, .int .i64 k, .slice none 0 0] := by rw [← hV4]; exact Box.new _ _ _
          have hs4 : V4.heap.size = V2.heap.size + 1 := by rw [← hV4]; simp; exact hs3
          have kX : ∀ q, q < V2.heap.size → q ≠ b → V4.heap[q]? = V2.heap[q]? := fun q hq hne => (hb4.block q (by omega)).trans (hF3.same q hq hne)
          have hblk4 : V4.heap[b]? = some (.cells (cur3 cur o ((noB, sym) : ByteArray × Int) (.slice (some ⟨V0.heap.size, 0, none⟩) 1 1)) 26 (0, 0)) := (hb4.block b (by omega)).trans hblk3
          have farX : ∀ {q T cs}, q ≠ b → Box V2 q T cs → Box V4 q T cs := fun hq hB => (kX _ hB.lt hq).trans hB
          have hl3 := HL2.out.fr hF3 (by omega)
          have hr3 := HRR2.out.fr hF3 (by omega)
          have y0 := hl3.v (k := 0) rfl; have y1 := hl3.v (k := 1) rfl; have y2 := hl3.v (k := 2) rfl; have y3 := hl3.v (k := 3) rfl
          have y4 : V3.cell? ⟨w.heap.size + 1, 2, none⟩ = some (.int .i64 i) := hr3.v rfl
          have hlow4 : Below 0 w V4 := (HLOW.out.trans hF3.low).trans (hb4.mono (Nat.zero_le _))
          have hk4 : ∀ q, q < w.heap.size → q ≠ b → V4.heap[q]? = w.heap[q]? := fun q hq hne => (kX q (by omega) hne).trans (HPK.out q hq)
          have hR4 : Box V4 V0.heap.size 26 #[.string t.1.1, .int .i64 t.1.2, .slice a ks.length c] := farX (by have := HS0.out; omega) HR2.out
          have hA3 : ∀ q, ((A q ∧ q < w.heap.size) ∨ q = V0.heap.size) → (A q ∧ q < w.heap.size) ∨ w.heap.size + 2 < q := fun q hq => hq.imp id (fun e => by have := HS0.out; omega)
          have hkf : FulE V4 (fun q => A q ∧ q < w.heap.size) ⟨t.1, t.2, a, c⟩ := ((hPw.row.tmL hPw.nm HKS.out).within).keep (fun q hq _ => hk4 q hq.2 (fun e => hPw.out (e ▸ hq.1)))
          have hrow : RowOf V4 (fun q => (A q ∧ q < w.heap.size) ∨ q = V0.heap.size) (some ⟨V0.heap.size, 0, none⟩) 1 [⟨t.1, t.2, a, c⟩] := by
            refine ⟨by simp, .inr ⟨_, rfl, .inr rfl, ⟨⟨_, hR4, rfl, ?_⟩, by simp, by simp [maxLen]⟩, GL.one (fulE.mono (fun q hq => ⟨.inl hq, by have := HS0.out; have := hq.2; omega⟩) hkf)⟩⟩
            show [_, _, _] = [Value.string t.1.1, .int .i64 t.1.2, .slice a (lenF t.2) c]
            rw [HKL.out]
          have hPl := pl_over (x3 := (noB, sym)) (a3 := some ⟨V0.heap.size, 0, none⟩) (c3 := 1) (ks3 := [⟨t.1, t.2, a, c⟩]) hPw hblk4 hrow (fun h => h.elim (fun h => hPw.out h.1) (fun h => by have := HS0.out; omega)) (by show (0 : Nat) ≤ _; exact Nat.zero_le _)
          have hC := lay_ins S n cap b o u h i V3.heap.size (unitK k) [⟨t.1, t.2, a, c⟩] (some ⟨V0.heap.size, 0, none⟩) 1 (cur3 cur o ((noB, sym) : ByteArray × Int) (.slice (some ⟨V0.heap.size, 0, none⟩) 1 1)) V4 hblk4 hPl.c2 hPl.row.owns (fun e => hPl.out (hPl.row.blk e).1) (show i ≤ 1 by omega) (show ([⟨t.1, t.2, a, c⟩] : List Kv).length ≤ 1048576 by simp) hU4 (fun e => by have := (hPl.row.blk e); rcases hA3 _ this.1 with h | h <;> omega)
          have hL2 : Calls Tryz.prog 88 #[placeV S n cap b o u h, .int .i64 i, .int .i64 0, .slice (some ⟨V3.heap.size, 0, none⟩) 1 1] V4 fun e w5 => ∃ v, e = .returned v ∧ w5.cell? ⟨w.heap.size + 1, 2, none⟩ = some (.int .i64 i) ∧ Hid (LayEnd V4 b o (cur3 cur o ((noB, sym) : ByteArray × Int) (.slice (some ⟨V0.heap.size, 0, none⟩) 1 1)) (some ⟨V0.heap.size, 0, none⟩) (([⟨t.1, t.2, a, c⟩]).take i ++ unitK k :: ([⟨t.1, t.2, a, c⟩]).drop i) w5) ∧ Hid (Box w5 (w.heap.size + 2) 47 (stepC zSp none 0 0)) := by
            refine Calls.mono hC ?_
            rintro e w5 ⟨⟨v, rfl⟩, hE⟩
            have hfar : ∀ {q T cs}, w.heap.size ≤ q → q < w.heap.size + 3 → Box V4 q T cs → Box w5 q T cs := fun {q _ _} h1 h2 hB => by
              obtain ⟨g', c', _, _, hF, _⟩ := hE
              refine (hF.same q hB.lt ?_).trans hB
              rintro (h | h)
              · rcases hA3 _ (hPl.row.blk h).1 with h' | h' <;> omega
              · omega
            have hr5 := hfar (by omega) (by omega) (farX (by omega) HRR2.out)
            exact ⟨v, rfl, hr5.v rfl, hE, hfar (by omega) (by omega) (farX (by omega) HZ2.out)⟩
          have HC2 := hid hL2; have HPL := hid hPl; have HLW4 := hid hlow4; have HK4 := hid hk4; have HA3 := hid hA3; have HS4 : Hid (w.heap.size + 2 < V4.heap.size) := by show _ < _; omega
          clear hPw hblkX hF3 hblk3 hs3 hb4 hU4 hs4 kX hblk4 hl3 hr3 hlow4 hk4 hPl hC hL2 hA3 farX
          clear hb1 hRb hXb hF2 hX2 hs0 hR2 hl2 hr2 hz2 hPk hlow hsV hR4 hkf hrow HG3 HG2
          go_wp2_with (first | (go_at_call 88; refine HC2.out.mono ?_; rintro e w5 ⟨v, rfl, j2, HE, HZ5⟩; have z0 := HZ5.out.v (k := 0) rfl; have z1 := HZ5.out.v (k := 1) rfl; have z2 := HZ5.out.v (k := 2) rfl; have z3 := HZ5.out.v (k := 3) rfl; have z4 := HZ5.out.v (k := 4) rfl; have f0 := HZ5.out.f 0; have f1 := HZ5.out.f 1; have f2 := HZ5.out.f 2; have f3 := HZ5.out.f 3; have f4 := HZ5.out.f 4) | fail)
          refine ret_step rfl rfl (sets5_box HZ5.out _ _ _ _ _) rfl rfl ?_
          exact grow_end HP.out HPL.out HF.out rfl (by rw [kids_mk]; rfl) HLW4.out HK4.out HA3.out HE.out (show ([⟨t.1, t.2, a, c⟩] : List Kv).length ≤ 1048576 by simp) (show i ≤ 1 by omega) HS4.out
    · have b1 : (many == 1) = false := by simp [hm1]
      by_cases hm0 : many = 0
      · subst hm0
        have HG3 : Hid (gr = (if headed sym t = true ∧ 0 ≤ at_ ∧ at_ ≤ lenF t.2 then some ((t.1, mkF (layL (kidsL t.2) at_.toNat 0 [constT k])), ⟨4, at_, 0, 0⟩) else none)) := HG2.out.trans ((if_neg (by decide)).trans (if_pos rfl))
        have HPK : Hid (∀ q, q < w.heap.size → V0.heap[q]? = w.heap[q]?) := fun q hq => HBV.out.block q hq
        have HLOW : Hid (Below 0 w V0) := HBV.out.mono (Nat.zero_le _)
        cases hx : t.1.1.toList.isEmpty
        · have HF : Hid (gr = none) := HG3.out.trans (if_neg (fun hh => by have h1 := (headed_iff.1 hh.1).1; rw [show noName t.1.1 = false from hx] at h1; cases h1))
          clear HG3 HG2
          have hz2 := HZV.out
          have z0 := hz2.v (k := 0) rfl; have z1 := hz2.v (k := 1) rfl; have z2 := hz2.v (k := 2) rfl; have z3 := hz2.v (k := 3) rfl; have z4 := hz2.v (k := 4) rfl
          have f0 := hz2.f 0; have f1 := hz2.f 1; have f2 := hz2.f 2; have f3 := hz2.f 3; have f4 := hz2.f 4
          clear hz2
          go_wp2
          refine ret_step rfl rfl (sets5_box HZV.out _ _ _ _ _) rfl rfl ?_
          exact DeedEnd.not HF.out (sets5_below HBV.out (by omega) _ _ _ _ _)
        · by_cases hs : t.1.2 = sym
          · have hs1 : (t.1.2 == sym) = true := by simp [hs]
            have HHD : Hid (headed sym t = true) := headed_iff.2 ⟨hx, hs⟩
            clear hs1
            subst hs
            have hse : (t.1.2 == t.1.2) = true := by simp
            by_cases ha : at_ < 0
            · have HF : Hid (gr = none) := HG3.out.trans (if_neg (by omega))
              clear HG3 HG2
              have hz2 := HZV.out
              have z0 := hz2.v (k := 0) rfl; have z1 := hz2.v (k := 1) rfl; have z2 := hz2.v (k := 2) rfl; have z3 := hz2.v (k := 3) rfl; have z4 := hz2.v (k := 4) rfl
              have f0 := hz2.f 0; have f1 := hz2.f 1; have f2 := hz2.f 2; have f3 := hz2.f 3; have f4 := hz2.f 4
              clear hz2
              go_wp2
              refine ret_step rfl rfl (sets5_box HZV.out _ _ _ _ _) rfl rfl ?_
              exact DeedEnd.not HF.out (sets5_below HBV.out (by omega) _ _ _ _ _)
            · by_cases hb : (lenF t.2 : Int) < at_
              · have HF : Hid (gr = none) := HG3.out.trans (if_neg (by omega))
                have hb' : (ks.length : Int) < at_ := by have := HKL.out; omega
                clear HG3 HG2
                have hz2 := HZV.out
                have z0 := hz2.v (k := 0) rfl; have z1 := hz2.v (k := 1) rfl; have z2 := hz2.v (k := 2) rfl; have z3 := hz2.v (k := 3) rfl; have z4 := hz2.v (k := 4) rfl
                have f0 := hz2.f 0; have f1 := hz2.f 1; have f2 := hz2.f 2; have f3 := hz2.f 3; have f4 := hz2.f 4
                clear hz2
                go_wp2
                refine ret_step rfl rfl (sets5_box HZV.out _ _ _ _ _) rfl rfl ?_
                exact DeedEnd.not HF.out (sets5_below HBV.out (by omega) _ _ _ _ _)
              · obtain ⟨i, rfl⟩ : ∃ i : Nat, at_ = i := ⟨at_.toNat, by omega⟩
                have HF : Hid (gr = some ((t.1, mkF (layL (kidsL t.2) i 0 [constT k])), ⟨4, i, 0, 0⟩)) := by
                  have := HG3.out.trans (if_pos ⟨HHD.out, by omega, by omega⟩)
                  rw [Int.toNat_natCast] at this
                  exact this
                have hb' : ¬ (ks.length : Int) < (i : Int) := by have := HKL.out; omega
                have ha' : ¬ (i : Int) < 0 := by omega
                clear HG3 HG2
                have hPw := HP.out
                obtain ⟨V3, hV3⟩ : ∃ V3, ((V0.setCell ⟨b, o, none⟩ (.string t.1.1)).setCell ⟨b, o + 1, none⟩ (.int .i64 t.1.2)).setCell ⟨b, o + 2, none⟩ (.slice a ks.length c) = V3 := ⟨_, rfl⟩
                have hblkX : V0.heap[b]? = some (.cells cur 26 (0, 0)) := (HPK.out b HBL.out).trans hPw.blk
                have bx0 : V0.cell? ⟨b, o, none⟩ = some (.string t.1.1) := cell_box hblkX hPw.c0
                have bx1 : V0.cell? ⟨b, o + 1, none⟩ = some (.int .i64 t.1.2) := cell_box hblkX hPw.c1
                have bx2 : V0.cell? ⟨b, o + 2, none⟩ = some (.slice a ks.length c) := cell_box hblkX hPw.c2
                have by0 : V0.frozen? ⟨b, o, none⟩ = false := by simp [World.frozen?, hblkX]
                have by1 : V0.frozen? ⟨b, o + 1, none⟩ = false := by simp [World.frozen?, hblkX]
                have by2 : V0.frozen? ⟨b, o + 2, none⟩ = false := by simp [World.frozen?, hblkX]
                have lX1 := HLV.out.v (k := 1) rfl
                have hbl := HBL.out; have hws := HWS.out; have hsx := HS0.out
                have hF3 : Fr (fun q => q = b) V0 V3 := by rw [← hV3]; exact Fr.sets (A := fun q => q = b) rfl _ _ _ _ _ _
                have hblk3 : V3.heap[b]? = some (.cells (cur3 cur o t.1 (.slice a ks.length c)) 26 (0, 0)) := by rw [← hV3]; exact block_set (k := o + 2) (block_set (k := o + 1) (block_set (k := o) hblkX _) _) _
                have hs3 : V3.heap.size = V0.heap.size := by rw [← hV3]; simp
                obtain ⟨V4, hV4⟩ : ∃ V4, V3.alloc (.cells #[.string ⟨#[]⟩, .int .i64 k, .slice none 0 0] 26) = V4 := ⟨_, rfl⟩
                have hb4 : Below V3.heap.size V3 V4 := by rw [← hV4]; exact alloc_below0 _ _
                have hU4 : Box V4 V3.heap.size 26 #[.string ⟨#[]⟩, .int .i64 k, .slice none 0 0] := by rw [← hV4]; exact Box.new _ _ _
                have hs4 : V4.heap.size = V0.heap.size + 1 := by rw [← hV4]; simp; exact hs3
                have kX : ∀ q, q < V0.heap.size → q ≠ b → V4.heap[q]? = V0.heap[q]? := fun q hq hne => (hb4.block q (by omega)).trans (hF3.same q hq hne)
                have hblk4 : V4.heap[b]? = some (.cells (cur3 cur o t.1 (.slice a ks.length c)) 26 (0, 0)) := (hb4.block b (by omega)).trans hblk3
                have farX : ∀ {q T cs}, q ≠ b → Box V0 q T cs → Box V4 q T cs := fun hq hB => (kX _ hB.lt hq).trans hB
                have hl3 := HLV.out.fr hF3 (by omega)
                have hr3 := HRV.out.fr hF3 (by omega)
                have y0 := hl3.v (k := 0) rfl; have y1 := hl3.v (k := 1) rfl; have y2 := hl3.v (k := 2) rfl; have y3 := hl3.v (k := 3) rfl
                have y4 : V3.cell? ⟨w.heap.size + 1, 2, none⟩ = some (.int .i64 i) := hr3.v rfl
                have hlow4 : Below 0 w V4 := (HLOW.out.trans hF3.low).trans (hb4.mono (Nat.zero_le _))
                have hk4 : ∀ q, q < w.heap.size → q ≠ b → V4.heap[q]? = w.heap[q]? := fun q hq hne => (kX q (by omega) hne).trans (HPK.out q hq)
                have hA3 : ∀ q, (A q ∧ q < w.heap.size) → (A q ∧ q < w.heap.size) ∨ w.heap.size + 2 < q := fun q hq => .inl hq
                have hro : RowOf w (fun q => A q ∧ q < w.heap.size) a c ks := by
                  refine ⟨hPw.row.few, ?_⟩
                  rcases hPw.row.row with h' | ⟨g, h1, h2, h3, h4⟩
                  · exact .inl h'
                  · exact .inr ⟨g, h1, ⟨h2, h3.lt⟩, h3, (h4.within fulE).mono (fun q hq => ⟨⟨hq.1.1, hq.2⟩, hq.1.2⟩)⟩
                have hrow : RowOf V4 (fun q => A q ∧ q < w.heap.size) a c ks := hro.keep (fun q hq _ => hk4 q hq.2 (fun e => hPw.out (e ▸ hq.1)))
                have hPl := pl_over (x3 := t.1) (a3 := a) (c3 := c) (ks3 := ks) hPw hblk4 hrow (fun h => hPw.out h.1) hPw.nm
                have hC := lay_ins S n cap b o u h i V3.heap.size (unitK k) ks a c (cur3 cur o t.1 (.slice a ks.length c)) V4 hblk4 hPl.c2 hPl.row.owns (fun e => hPl.out (hPl.row.blk e).1) (show i ≤ ks.length by have := HKL.out; omega) (show ks.length ≤ 1048576 by have := HKL.out; have := HLN.out; omega) hU4 (fun e => by have := (hPl.row.blk e); rcases hA3 _ this.1 with h | h <;> omega)
                have hL2 : Calls Tryz.prog 88 #[placeV S n cap b o u h, .int .i64 i, .int .i64 0, .slice (some ⟨V3.heap.size, 0, none⟩) 1 1] V4 fun e w5 => ∃ v, e = .returned v ∧ w5.cell? ⟨w.heap.size + 1, 2, none⟩ = some (.int .i64 i) ∧ Hid (LayEnd V4 b o (cur3 cur o t.1 (.slice a ks.length c)) a ((ks).take i ++ unitK k :: (ks).drop i) w5) ∧ Hid (Box w5 (w.heap.size + 2) 47 (stepC zSp none 0 0)) := by
                  refine Calls.mono hC ?_
                  rintro e w5 ⟨⟨v, rfl⟩, hE⟩
                  have hfar : ∀ {q T cs}, w.heap.size ≤ q → q < w.heap.size + 3 → Box V4 q T cs → Box w5 q T cs := fun {q _ _} h1 h2 hB => by
                    obtain ⟨g', c', _, _, hF, _⟩ := hE
                    refine (hF.same q hB.lt ?_).trans hB
                    rintro (h | h)
                    · rcases hA3 _ (hPl.row.blk h).1 with h' | h' <;> omega
                    · omega
                  have hr5 := hfar (by omega) (by omega) (farX (by omega) HRV.out)
                  exact ⟨v, rfl, hr5.v rfl, hE, hfar (by omega) (by omega) (farX (by omega) HZV.out)⟩
                have HC2 := hid hL2; have HPL := hid hPl; have HLW4 := hid hlow4; have HK4 := hid hk4; have HA3 := hid hA3; have HS4 : Hid (w.heap.size + 2 < V4.heap.size) := by show _ < _; omega
                clear hPw hblkX hF3 hblk3 hs3 hb4 hU4 hs4 kX hblk4 hl3 hr3 hlow4 hk4 hPl hC hL2 hA3 farX
                clear hro hrow
                go_wp2_with (first | (go_at_call 88; refine HC2.out.mono ?_; rintro e w5 ⟨v, rfl, j2, HE, HZ5⟩; have z0 := HZ5.out.v (k := 0) rfl; have z1 := HZ5.out.v (k := 1) rfl; have z2 := HZ5.out.v (k := 2) rfl; have z3 := HZ5.out.v (k := 3) rfl; have z4 := HZ5.out.v (k := 4) rfl; have f0 := HZ5.out.f 0; have f1 := HZ5.out.f 1; have f2 := HZ5.out.f 2; have f3 := HZ5.out.f 3; have f4 := HZ5.out.f 4) | fail)
                refine ret_step rfl rfl (sets5_box HZ5.out _ _ _ _ _) rfl rfl ?_
                exact grow_end HP.out HPL.out HF.out rfl (by rw [kids_mk, HKS.out]) HLW4.out HK4.out HA3.out HE.out (show ks.length ≤ 1048576 by have := HKL.out; have := HLN.out; omega) (show i ≤ ks.length by have := HKL.out; omega) HS4.out
          · have hs1 : (t.1.2 == sym) = false := by simp [hs]
            have HF : Hid (gr = none) := HG3.out.trans (if_neg (fun hh => hs (headed_iff.1 hh.1).2))
            clear HG3 HG2
            have hz2 := HZV.out
            have z0 := hz2.v (k := 0) rfl; have z1 := hz2.v (k := 1) rfl; have z2 := hz2.v (k := 2) rfl; have z3 := hz2.v (k := 3) rfl; have z4 := hz2.v (k := 4) rfl
            have f0 := hz2.f 0; have f1 := hz2.f 1; have f2 := hz2.f 2; have f3 := hz2.f 3; have f4 := hz2.f 4
            clear hz2
            go_wp2
            refine ret_step rfl rfl (sets5_box HZV.out _ _ _ _ _) rfl rfl ?_
            exact DeedEnd.not HF.out (sets5_below HBV.out (by omega) _ _ _ _ _)
      · have b0 : (many == 0) = false := by simp [hm0]
        have HF : Hid (gr = none) := HG2.out.trans ((if_neg hm1).trans (if_neg hm0))
        clear HG2
        have hz2 := HZV.out
        have z0 := hz2.v (k := 0) rfl; have z1 := hz2.v (k := 1) rfl; have z2 := hz2.v (k := 2) rfl; have z3 := hz2.v (k := 3) rfl; have z4 := hz2.v (k := 4) rfl
        have f0 := hz2.f 0; have f1 := hz2.f 1; have f2 := hz2.f 2; have f3 := hz2.f 3; have f4 := hz2.f 4
        clear hz2
        go_wp2
        refine ret_step rfl rfl (sets5_box HZV.out _ _ _ _ _) rfl rfl ?_
        exact DeedEnd.not HF.out (sets5_below HBV.out (by omega) _ _ _ _ _)
end Go.Proofs.YtokbgbbkopmngaaGreat
/- A place: deedOf, do. -/
namespace Go.Proofs.YtokbgbbkopmngaaGreat
open Go.RowKit Go.Deep

def deedK (kd : Int) : Nat := if kd = 1 then 77 else if kd = 2 then 78 else if kd = 3 then 79 else if kd = 4 then 80 else 81
set_option maxRecDepth 100000 in
set_option maxHeartbeats 2000000 in
theorem deedOf_any (S : Option Addr) (n cap b o : Nat) (u : Int) (h : Bool) (kd : Int) (w : World) :
    Calls Tryz.prog 57 #[placeV S n cap b o u h, .int .i64 kd] w fun e w' => e = .returned (.func (.func (deedK kd)) #[placeV S n cap b o u h] #[]) ∧ Below w.heap.size w w' := by
  obtain ⟨W0, hW0⟩ : ∃ W0, w.alloc (.cells #[.slice S n cap, .pointer (some ⟨b, o, none⟩), .int .i64 u, .bool h] 76) = W0 := ⟨_, rfl⟩
  have hb0 : Below w.heap.size w W0 := by rw [← hW0]; exact alloc_below0 _ _
  have B0 : Box W0 w.heap.size 76 #[.slice S n cap, .pointer (some ⟨b, o, none⟩), .int .i64 u, .bool h] := by rw [← hW0]; exact Box.new _ _ _
  have d0 := B0.v (k := 0) rfl; have d1 := B0.v (k := 1) rfl; have d2 := B0.v (k := 2) rfl; have d3 := B0.v (k := 3) rfl
  have HB := hid hb0
  clear hb0 B0
  unfold deedK
  by_cases h1 : kd = 1
  · subst h1
    go_enter Tryz.func57, Tryz.ntmps57
    go_wp2
    go_ret
    exact ⟨rfl, HB.out⟩
  · have b1 : (kd == 1) = false := by simp [h1]
    by_cases h2 : kd = 2
    · subst h2
      go_enter Tryz.func57, Tryz.ntmps57
      go_wp2
      go_ret
      exact ⟨rfl, HB.out⟩
    · have b2 : (kd == 2) = false := by simp [h2]
      by_cases h3 : kd = 3
      · subst h3
        go_enter Tryz.func57, Tryz.ntmps57
        go_wp2
        go_ret
        exact ⟨rfl, HB.out⟩
      · have b3 : (kd == 3) = false := by simp [h3]
        by_cases h4 : kd = 4
        · subst h4
          go_enter Tryz.func57, Tryz.ntmps57
          go_wp2
          go_ret
          exact ⟨rfl, HB.out⟩
        · have b4 : (kd == 4) = false := by simp [h4]
          rw [if_neg h1, if_neg h2, if_neg h3, if_neg h4]
          go_enter Tryz.func57, Tryz.ntmps57
          go_wp2
          go_ret
          exact ⟨rfl, HB.out⟩
def ansSp (r : Option (Tn × Sp)) : Sp := match r with | none => zSp | some r => r.2
def ansOk (r : Option (Tn × Sp)) : Bool := r.isSome
theorem DeedEnd.ret {w : World} {b o : Nat} {A : Bl} {cur : Array Value} {r : Option (Tn × Sp)} {e : Ending} {w' : World} (h : DeedEnd w b o A cur r e w') : e = .returned (.tuple #[stepV (ansSp r) none 0 0, .bool (ansOk r)]) := by
  cases r with
  | none => exact h.1
  | some r => exact h.1
theorem Pl.within {w : World} {b o : Nat} {A : Bl} {x : ByteArray × Int} {a : Option Addr} {c : Nat} {ks : List Kv} {cur : Array Value} (h : Pl w b o A x a c ks cur) : Pl w b o (fun q => A q ∧ q < w.heap.size) x a c ks cur := by
  refine ⟨h.blk, h.c0, h.c1, h.c2, ⟨h.row.few, ?_⟩, fun hh => h.out hh.1, h.nm⟩
  rcases h.row.row with h' | ⟨g, h1, h2, h3, h4⟩
  · exact .inl h'
  · exact .inr ⟨g, h1, ⟨h2, h3.lt⟩, h3, (h4.within fulE).mono (fun q hq => ⟨⟨hq.1.1, hq.2⟩, hq.1.2⟩)⟩
/-- A deed's end, from where its caller began. -/
theorem DeedEnd.lift {w W w2 : World} {b o : Nat} {A : Bl} {cur : Array Value} {r : Option (Tn × Sp)} {e : Ending} {B : Nat} (hb : Below w.heap.size w W) (hB : w.heap.size ≤ B) (hBW : B < W.heap.size) (hbl : b < w.heap.size) (h : DeedEnd W b o (fun q => A q ∧ q < w.heap.size) cur r e w2) :
    w2.heap[B]? = W.heap[B]? ∧ ∀ w3 : World, Below 0 w2 w3 → (∀ q, q ≠ B → w3.heap[q]? = w2.heap[q]?) → DeedEnd w b o A cur r (.returned (.tuple #[stepV (ansSp r) none 0 0, .bool (ansOk r)])) w3 := by
  have hsz := hb.size
  cases r with
  | none =>
    refine ⟨h.2.block B hBW, fun w3 h3 hk => ⟨rfl, ?_⟩⟩
    exact ⟨h3.os.trans (hb.trans (h.2.mono hsz)).os, h3.tape.trans (hb.trans (h.2.mono hsz)).tape, h3.output.trans (hb.trans (h.2.mono hsz)).output, Nat.le_trans (hb.trans (h.2.mono hsz)).size h3.size, fun q hq => (hk q (by omega)).trans ((hb.trans (h.2.mono hsz)).block q hq)⟩
  | some r =>
    obtain ⟨_, A', a, c, ks, hk1, hU⟩ := h
    have hnB : ∀ q, A' q → q ≠ B := fun q hq => by
      rcases hU.new q hq with h' | h' <;> omega
    refine ⟨hU.same B hBW (fun h' => by have := h'.2; omega) (by omega), fun w3 h3 hk => ⟨rfl, A', a, c, ks, hk1, ?_⟩⟩
    obtain ⟨cur', c1, c2, c3⟩ := hU.node
    refine ⟨((hb.mono (Nat.zero_le _)).trans hU.low).trans h3, fun q hq hA hne => ?_, fun q hq => ?_, cur', c1, c2, c3.keep (hk b (by omega)) (fun q hq _ => hk q (hnB q hq))⟩
    · exact ((hk q (by omega)).trans (hU.same q (by omega) (fun h' => hA h'.1) hne)).trans (hb.block q hq)
    · rcases hU.new q hq with h' | h'
      · exact .inl h'.1
      · exact .inr (by omega)
theorem stepN_takes {L : List Sym} {t : Tn} {p : Sp} (h : takesN L t.1 (lenF t.2) (unitOk L t.1.2) p = false) : stepN (sgOf L) t p = none := by
  unfold takesN at h
  unfold stepN
  by_cases h5 : p.kind = 5
  · rw [if_pos h5] at h; cases h
  · rw [if_neg h5] at h
    rw [if_neg h5]
    by_cases hg : gathN (sgOf L) t = true ∧ inI p.at_ (lenF t.2) = true
    · rw [if_pos hg]
      have hgg : (noName t.1.1 && joinsAt L t.1.2 && inI p.at_ (lenF t.2)) = true := by rw [Bool.and_eq_true]; exact hg
      by_cases h4 : p.kind = 4 ∧ unitOk L t.1.2 = false
      · have hu : (sgOf L).unit t.1.2 = none := by
          show (unitAt L t.1.2).map _ = none
          have := h4.2
          unfold unitOk at this
          cases hh : unitAt L t.1.2 with
          | none => rfl
          | some k => rw [hh] at this; cases this
        rw [if_neg (by omega), if_neg (by omega), if_neg (by omega), if_pos h4.1, hu]
      · rw [if_neg h4, hgg] at h
        by_cases hk : p.kind = 1 ∨ p.kind = 2 ∨ p.kind = 3 ∨ p.kind = 4
        · rw [if_pos hk] at h; cases h
        · rw [if_neg (by omega), if_neg (by omega), if_neg (by omega), if_neg (by omega)]
    · rw [if_neg hg]
/-- What the deed of the kind does, where it is taken. -/
theorem deed_any (S : Option Addr) (n cap b o : Nat) (L : List Sym) (A : Bl) (t : Tn) (a : Option Addr) (c : Nat) (ks : List Kv) (cur : Array Value) (p : Sp) (pa : Option Addr) (pn pc : Nat) (w : World)
    (hS : SigAt w S n L) (hP : Pl w b o A t.1 a c ks cur) (hks : ks.map Kv.tn = kidsL t.2) (hn : nodesF t.2 ≤ 1048576) (h : takesN L t.1 (lenF t.2) (unitOk L t.1.2) p = true) :
    Calls Tryz.prog (deedK p.kind) #[placeV S n cap b o (unitI L t.1.2) (unitOk L t.1.2), stepV p pa pn pc] w (DeedEnd w b o A cur (stepN (sgOf L) t p)) := by
  unfold takesN at h
  unfold stepN deedK
  by_cases h5 : p.kind = 5
  · rw [if_pos h5, if_neg (by omega), if_neg (by omega), if_neg (by omega), if_neg (by omega)]
    exact grow_any S n cap b o _ _ L A t a c ks cur p pa pn pc w hS hP hks hn
  · rw [if_neg h5] at h
    rw [if_neg h5]
    by_cases h4 : p.kind = 4 ∧ unitOk L t.1.2 = false
    · rw [if_pos h4] at h; cases h
    · rw [if_neg h4] at h
      by_cases hk : p.kind = 1 ∨ p.kind = 2 ∨ p.kind = 3 ∨ p.kind = 4
      · rw [if_pos hk] at h
        have hg : gathN (sgOf L) t = true ∧ inI p.at_ (lenF t.2) = true := by rw [Bool.and_eq_true] at h; exact h
        rw [if_pos hg]
        by_cases k1 : p.kind = 1
        · rw [if_pos k1, if_pos k1]; exact flat_any S n cap b o _ _ A t a c ks cur p pa pn pc w hP hks hg.2 hn
        · rw [if_neg k1, if_neg k1]
          by_cases k2 : p.kind = 2
          · rw [if_pos k2, if_pos k2]; exact group_any S n cap b o _ _ A t a c ks cur p pa pn pc w hP hks hg.2 hn
          · rw [if_neg k2, if_neg k2]
            by_cases k3 : p.kind = 3
            · rw [if_pos k3, if_pos k3]; exact swap_any S n cap b o _ _ A t a c ks cur p pa pn pc w hP hks hg.2 hn
            · rw [if_neg k3, if_neg k3]
              have k4 : p.kind = 4 := by omega
              rw [if_pos k4, if_pos k4]
              cases hu : unitAt L t.1.2 with
              | none => exact absurd ⟨k4, by unfold unitOk; rw [hu]; rfl⟩ h4
              | some k =>
                have e1 : (sgOf L).unit t.1.2 = some (k : Int) := by show (unitAt L t.1.2).map _ = _; rw [hu]; rfl
                have e2 : unitI L t.1.2 = (k : Int) := by unfold unitI; rw [hu]
                rw [e1, e2]
                exact drop_any S n cap b o _ _ A t a c ks cur p pa pn pc w hP hks hg.2 hn
      · rw [if_neg hk] at h; cases h
end Go.Proofs.YtokbgbbkopmngaaGreat
/- A place: do. -/
namespace Go.Proofs.YtokbgbbkopmngaaGreat
open Go.RowKit Go.Deep

/-- The cells that do reads. -/
def DoS (S : Option Addr) (n cap b o : Nat) (u : Int) (h : Bool) (p : Sp) (pa : Option Addr) (pn pc B : Nat) (w' : World) : Prop := w'.cell? ⟨B, 0, none⟩ = some (.slice S n cap) ∧ w'.cell? ⟨B, 1, none⟩ = some (.pointer (some ⟨b, o, none⟩)) ∧ w'.cell? ⟨B, 2, none⟩ = some (.int .i64 u) ∧ w'.cell? ⟨B, 3, none⟩ = some (.bool h) ∧ w'.cell? ⟨B + 1, 0, none⟩ = some (.int .i64 p.kind) ∧ w'.cell? ⟨B + 1, 1, none⟩ = some (.slice pa pn pc) ∧ w'.cell? ⟨B + 1, 2, none⟩ = some (.int .i64 p.at_) ∧ w'.cell? ⟨B + 1, 3, none⟩ = some (.int .i64 p.many) ∧ w'.cell? ⟨B + 1, 4, none⟩ = some (.int .i64 p.sym)
theorem DoS.of {S : Option Addr} {n cap b o : Nat} {u : Int} {h : Bool} {p : Sp} {pa : Option Addr} {pn pc B : Nat} {w' : World} (hl : Box w' B 76 #[.slice S n cap, .pointer (some ⟨b, o, none⟩), .int .i64 u, .bool h]) (hr : Box w' (B + 1) 47 (stepC p pa pn pc)) : DoS S n cap b o u h p pa pn pc B w' :=
  ⟨hl.v rfl, hl.v rfl, hl.v rfl, hl.v rfl, hr.v rfl, hr.v rfl, hr.v rfl, hr.v rfl, hr.v rfl⟩
end Go.Proofs.YtokbgbbkopmngaaGreat
