/- The deed flat. -/
import Derived.Test.YtokbgbbkopmngaaDvE
namespace Go.Proofs.Ytokbgbbkopmngaa
open Go.RowKit Go.Deep

theorem pick_perm {ks : List Kv} {i : Nat} {y : Kv} (hy : ks[i]? = some y) : List.Perm ks (y :: (ks.take i ++ ks.drop (i + 1))) := by
  obtain ⟨hi, rfl⟩ := List.getElem?_eq_some_iff.1 hy
  have e : ks = ks.take i ++ ks[i] :: ks.drop (i + 1) := by rw [← List.drop_eq_getElem_cons hi, List.take_append_drop]
  conv => lhs; rw [e]
  exact List.perm_middle
theorem gl_pick {E : World → Bl → Kv → Prop} {w : World} {ks : List Kv} {B : Bl} {i : Nat} {y : Kv} (h : GL E w ks B) (hy : ks[i]? = some y) : ∃ B1 B2 : Bl, (∀ q, B1 q → B q) ∧ (∀ q, B2 q → B q ∧ ¬ B1 q) ∧ E w B1 y ∧ GL E w (ks.take i ++ ks.drop (i + 1)) B2 := h.perm (pick_perm hy)
/-- A term's arguments in its place. -/
theorem gl_flat {w : World} {ks : List Kv} {B : Bl} {i : Nat} {y : Kv} (h : GL FulE w ks B) (hy : ks[i]? = some y) :
    ∃ (vs : List Kv) (B' : Bl), vs.map Kv.tn = kidsL y.l ∧ (∀ g, ¬ B g → SrcV w g y.a y.c vs) ∧ GL FulE w (layK ks i (i + 1) vs) B' ∧ ∀ q, B' q → B q := by
  obtain ⟨B1, B2, h1, h2, h3, h4⟩ := gl_pick h hy
  obtain ⟨vs, k1, k2⟩ := FulTm.open h3
  rcases k2.row with ⟨rfl, ha, _⟩ | ⟨vb, ha, hvb, hR, hG⟩
  · exact ⟨[], B2, k1, fun g _ => .inl ⟨ha, rfl⟩, h4, fun q hq => (h2 q hq).1⟩
  · refine ⟨vs, fun q => (B1 q ∧ q ≠ vb) ∨ B2 q, k1, fun g hg => .inr ⟨vb, ha, fun e => hg (e ▸ h1 vb hvb), hR⟩, ?_, ?_⟩
    · refine GL.perm ?_ (GL.append h4 (fun q hq hb => (h2 q hb).2 hq.1) hG)
      unfold layK
      rw [← List.append_assoc, ← List.append_assoc]
      exact List.perm_append_comm.append_right _
    · rintro q (hq | hq)
      · exact h1 q hq.1
      · exact (h2 q hq).1
theorem kv_get {ks : List Kv} {l : Fo} {i : Nat} (hks : ks.map Kv.tn = kidsL l) (hi : i < ks.length) : ∃ y, ks[i]? = some y ∧ (kidsL l)[i]? = some y.tn := ⟨ks[i], List.getElem?_eq_getElem hi, by rw [← hks, List.getElem?_map, List.getElem?_eq_getElem hi]; rfl⟩
theorem kv_len {ks : List Kv} {l : Fo} (hks : ks.map Kv.tn = kidsL l) : ks.length = lenF l := by have := congrArg List.length hks; rwa [List.length_map, kids_len] at this
theorem layK_map {ks vs : List Kv} {i m : Nat} : (layK ks i (i + m) vs).map Kv.tn = layL (ks.map Kv.tn) i m (vs.map Kv.tn) := by
  unfold layK layL
  rw [List.map_append, List.map_append, List.map_take, List.map_drop]
theorem nodes_get {l : Fo} {i : Nat} {t : Tn} (h : (kidsL l)[i]? = some t) : nodesF t.2 + 1 ≤ nodesF l := by
  rw [nodes_sizes l]
  exact sizes_mem (List.mem_of_getElem? h)

set_option maxRecDepth 100000 in
set_option maxHeartbeats 2000000 in
theorem flat_any (S : Option Addr) (n cap b o : Nat) (u : Int) (h : Bool) (A : Bl) (t : Tn) (a : Option Addr) (c : Nat) (ks : List Kv) (cur : Array Value) (p : Sp) (pa : Option Addr) (pn pc : Nat) (w : World)
    (hP : Pl w b o A t.1 a c ks cur) (hks : ks.map Kv.tn = kidsL t.2) (hin : inI p.at_ (lenF t.2) = true) (hn : nodesF t.2 ≤ 1048576) :
    Calls Try.prog 71 #[placeV S n cap b o u h, stepV p pa pn pc] w (DeedEnd w b o A cur (flatN t p)) := by
  obtain ⟨i, hi, hlt⟩ := inI_iff.1 hin
  obtain ⟨kd, at_, many, sym⟩ := p
  simp only at hi hin
  subst hi
  have hkl := kv_len hks
  have hlen := len_nodes t.2
  obtain ⟨y, hy, hyk⟩ := kv_get hks (i := i) (by omega)
  have hyn := nodes_get hyk
  have hyl := len_nodes y.tn.2
  obtain ⟨g, rfl, hAg, hR, hG⟩ : ∃ g, a = some ⟨g, 0, none⟩ ∧ A g ∧ RowV w g c ks ∧ GL FulE w ks (fun q => A q ∧ q ≠ g) := by
    rcases hP.row.row with ⟨rfl, _⟩ | h
    · simp at hy
    · exact h
  obtain ⟨vs, B', hvs, hsrc, hGL, hB'⟩ := gl_flat hG hy
  have hvl := kv_len hvs
  have hylen : lenF y.l ≤ nodesF y.l := len_nodes y.l
  obtain ⟨W0, hW0⟩ : ∃ W0, ((w.alloc (.cells #[.slice S n cap, .pointer (some ⟨b, o, none⟩), .int .i64 u, .bool h] 78)).alloc (.cells (stepC ⟨kd, i, many, sym⟩ pa pn pc) 39)).alloc (.cells (stepC zSp none 0 0) 39) = W0 := ⟨_, rfl⟩
  have hT : Tri w #[.slice S n cap, .pointer (some ⟨b, o, none⟩), .int .i64 u, .bool h] (stepC ⟨kd, i, many, sym⟩ pa pn pc) W0 := by rw [← hW0]; exact Tri.new _ _ _
  have hsz : W0.heap.size = w.heap.size + 3 := by rw [← hW0]; simp
  have hP0 := hP.below hT.low
  have hN0 := hP0.nd
  have hR0 : RowV W0 g c ks := hR.keep (hT.low.block g hR.lt)
  obtain ⟨y0, y1, y2⟩ := kv_cells hy
  have p0 := hR0.cells y0; have p1 := hR0.cells y1; have p2 := hR0.cells y2
  have d1 := hT.l.v (k := 1) rfl
  have r2 : W0.cell? ⟨w.heap.size + 1, 2, none⟩ = some (.int .i64 i) := hT.r.v rfl
  have e1 := hN0.sym; have e2 := hN0.list
  have hi0 : (0 : Int) ≤ (i : Int) := by omega
  have hin' : (i : Int) < (ks.length : Int) := by omega
  obtain ⟨X, hX⟩ : ∃ X, Obj.cells #[.string ⟨#[]⟩, .int .i64 0, .slice none 0 0] 26 = X := ⟨_, rfl⟩
  have bX := alloc_below0 W0 (Obj.cells #[.string ⟨#[]⟩, .int .i64 0, .slice none 0 0] 26)
  have p0' := below_cell bX _ _ p0; have p1' := below_cell bX _ _ p1; have p2' := below_cell bX _ _ p2
  have d1' := below_cell bX _ _ d1; have r2' := below_cell bX _ _ r2; have e2' := below_cell bX _ _ e2
  have BX := Box.new W0 26 #[.string ⟨#[]⟩, .int .i64 0, .slice none 0 0]
  have x0 := BX.v (k := 0) rfl; have x1 := BX.v (k := 1) rfl; have x2 := BX.v (k := 2) rfl
  have xf0 := BX.f 0; have xf1 := BX.f 1; have xf2 := BX.f 2
  have HSZ := hid hsz
  have HT := hid hT; have HP := hid hP
  clear bX BX hX hsz
  clear hP hT hP0 hN0 hR0 y0 y1 y2 hG hin
  have HKL := hid hkl; have HVL := hid hvl; have HKS := hid hks; have HVS := hid hvs; have HGL := hid hGL; have HB' := hid hB'; have HSR := hid hsrc; have HYK := hid hyk; have HR := hid hR
  have HF : Hid (flatN t ⟨kd, i, many, sym⟩ = (if headed t.1.2 y.tn then some ((t.1, mkF (layL (kidsL t.2) i 1 (kidsL y.l))), ⟨2, i, lenF y.l, 0⟩) else none)) := by
    show _ = _
    unfold flatN
    simp only [Int.toNat_natCast, hyk]
    rfl
  have hyb : Hid (lenF y.l ≤ 1048576) := by show _ ≤ _; have : nodesF y.l + 1 ≤ nodesF t.2 := hyn; omega
  have HLN : Hid (lenF t.2 ≤ 1048576) := by show _ ≤ _; omega
  have HGL2 : Hid (g < w.heap.size) := hR.lt
  have HBL : Hid (b < w.heap.size) := HP.out.lt
  have hbg : b ≠ g := fun e => HP.out.out (e ▸ hAg)
  obtain ⟨W1, hW1⟩ : ∃ W1, (W0.alloc (Obj.cells #[.string y.x.1, .int .i64 y.x.2, .slice y.a (lenF y.l) y.c] 26)).drew = W1 := ⟨_, rfl⟩
  have hb1 : Below W0.heap.size W0 W1 := by rw [← hW1]; exact (alloc_below0 W0 _).drew
  have BY : Box W1 W0.heap.size 26 #[.string y.x.1, .int .i64 y.x.2, .slice y.a (lenF y.l) y.c] := by rw [← hW1]; exact Box.new W0 _ _
  have hne := later_some W1
  have m0 := later_cell (BY.v (k := 0) rfl); have m1 := later_cell (BY.v (k := 1) rfl); have m2 := later_cell (BY.v (k := 2) rfl)
  have n1 := later_cell (below_cell hb1 _ _ d1); have n2 := later_cell (below_cell hb1 _ _ e1)
  have HB1 := hid hb1; have HBY := hid BY
  obtain ⟨fl, hfl⟩ : ∃ fl, flatN t ⟨kd, i, many, sym⟩ = fl := ⟨_, rfl⟩
  rw [hfl] at HF ⊢
  clear hkl hvl hks hvs hGL hB' hsrc hyk hR hb1 BY hfl hlen hyn hyl hylen hlt
  go_enter Try.func71, Try.ntmps71
  go_wp2_with fail
  go_region
  clear hW1 hW0 x0 x1 x2 xf0 xf1 xf2 p0 p1 p2 p0' p1' p2' d1' r2' e2'
  cases hx : y.x.1.toList.isEmpty
  · go_wp2_with fail
    refine wp_region_later (by kernel_rfl) (by kernel_rfl) ?_
    repeat (go_big_quiet_step (fail))
    refine wpQuiet_nil ?_
    intro _ hw'
    obtain ⟨b2, hw''⟩ := hw'
    subst hw''
    have HZ := hid (((HT.out.z.below HB1.out).below b2.below))
    have z0 := HZ.out.v (k := 0) rfl; have z1 := HZ.out.v (k := 1) rfl; have z2 := HZ.out.v (k := 2) rfl; have z3 := HZ.out.v (k := 3) rfl; have z4 := HZ.out.v (k := 4) rfl
    have f0 := HZ.out.f 0; have f1 := HZ.out.f 1; have f2 := HZ.out.f 2; have f3 := HZ.out.f 3; have f4 := HZ.out.f 4
    go_wp2
    refine ret_step rfl rfl (sets5_box HZ.out _ _ _ _ _) rfl rfl ?_
    exact DeedEnd.not (by rw [HF.out]; unfold headed; rw [show noName y.tn.1.1 = false from hx]; rfl) (sets5_below ((HT.out.low.trans (HB1.out.mono (by have := HSZ.out; omega))).trans (b2.below.mono (by have := HSZ.out; have := HB1.out.size; omega))) (by omega) _ _ _ _ _)
  · by_cases hs : y.x.2 = t.1.2
    · have hs1 : (y.x.2 == t.1.2) = true := by simp [hs]
      have HS := hid hs
      have HX : Hid (noName y.x.1 = true) := hx
      go_wp2_with fail
      refine wp_region_later (by kernel_rfl) (by kernel_rfl) ?_
      repeat (go_big_quiet_step (fail))
      refine wpQuiet_nil ?_
      intro _ hw'
      obtain ⟨b2, hw''⟩ := hw'
      subst hw''
      have hbW : Below w.heap.size w b2.now := (HT.out.low.trans (HB1.out.mono (by have := HSZ.out; omega))).trans (b2.below.mono (by have := HSZ.out; have := HB1.out.size; omega))
      have hbW0 : Below W0.heap.size W0 b2.now := HB1.out.trans (b2.below.mono HB1.out.size)
      have hP2 := HP.out.below hbW
      have hR2 : RowV b2.now g c ks := HR.out.keep (hbW.block g HR.out.lt)
      have hV2 : SrcV b2.now g y.a y.c vs := (HSR.out g (fun h => h.2 rfl)).keep (fun q _ hq => hbW.block q hq)
      have hL := lay_rep S n cap b o u h i 1 y.a y.c vs ks g c cur b2.now hP2.blk hP2.c2 hR2 hV2 hbg (by omega) (by have := HKL.out; omega) (by have := HKL.out; have := HLN.out; omega) (by have := HVL.out; have := hyb.out; omega)
      rw [HVL.out] at hL
      have hTl := HT.out.l.below hbW0
      have hTr := HT.out.r.below hbW0
      have hBY2 := HBY.out.below b2.below
      have q0 := hTl.v (k := 0) rfl; have q1 := hTl.v (k := 1) rfl; have q2 := hTl.v (k := 2) rfl; have q3 := hTl.v (k := 3) rfl
      have q4 : b2.now.cell? ⟨w.heap.size + 1, 2, none⟩ = some (.int .i64 i) := hTr.v rfl
      have q5 := hBY2.v (k := 2) rfl
      have HSZ2 : Hid (W0.heap.size < b2.now.heap.size) := hBY2.lt
      have HTr := hid hTr; have HBY2 := hid hBY2; have HP2 := hid hP2; have HZ := hid (HT.out.z.below hbW0); have HBW := hid hbW
      obtain ⟨W2, hW2⟩ : ∃ W2, b2.now = W2 := ⟨_, rfl⟩
      rw [hW2] at hL q0 q1 q2 q3 q4 q5 HTr HBY2 HP2 HZ HBW HSZ2 ⊢
      have hL2 : Calls Try.prog 81 #[placeV S n cap b o u h, .int .i64 i, .int .i64 1, .slice y.a (lenF y.l) y.c] W2 fun e w3 => ∃ v, e = .returned v ∧ w3.cell? ⟨w.heap.size + 1, 2, none⟩ = some (.int .i64 i) ∧ w3.cell? ⟨W0.heap.size, 2, none⟩ = some (.slice y.a (lenF y.l) y.c) ∧ Hid (LayEnd W2 b o cur (some ⟨g, 0, none⟩) (layK ks i (i + 1) vs) w3) ∧ Hid (Box w3 (w.heap.size + 2) 39 (stepC zSp none 0 0)) := by
        refine Calls.mono hL ?_
        rintro e w3 ⟨⟨v, rfl⟩, hE⟩
        have hE' := hE
        obtain ⟨g', c', _, _, hF, _⟩ := hE'
        have hne : ∀ q, w.heap.size ≤ q → ¬ ((some (⟨g, 0, none⟩ : Addr)).map Addr.block = some q ∨ q = b) := fun q hq h => by
          have h1 := HGL2.out
          have h2 := HBL.out
          rcases h with h | h
          · have h : some g = some q := h
            have := Option.some.inj h
            omega
          · omega
        exact ⟨v, rfl, (HTr.out.fr hF (hne _ (by omega))).v rfl, (HBY2.out.fr hF (hne _ (by have := HSZ.out; omega))).v rfl, hE, HZ.out.fr hF (hne _ (by omega))⟩
      have HL2 := hid hL2
      clear hbW hbW0 hP2 hR2 hV2 hTl hTr hBY2 n1 n2 m0 m1 m2 hne hW2 hL hL2
      go_wp2_with (first | (go_at_call 81; refine HL2.out.mono ?_; rintro e w3 ⟨v, rfl, k1, k2, HE, HZ3⟩; have z0 := HZ3.out.v (k := 0) rfl; have z1 := HZ3.out.v (k := 1) rfl; have z2 := HZ3.out.v (k := 2) rfl; have z3 := HZ3.out.v (k := 3) rfl; have z4 := HZ3.out.v (k := 4) rfl; have f0 := HZ3.out.f 0; have f1 := HZ3.out.f 1; have f2 := HZ3.out.f 2; have f3 := HZ3.out.f 3; have f4 := HZ3.out.f 4) | fail)
      refine ret_step rfl rfl (sets5_box HZ3.out _ _ _ _ _) rfl rfl ?_
      have hhd : headed t.1.2 y.tn = true := headed_iff.2 ⟨HX.out, HS.out⟩
      have hfl : fl = some ((t.1, mkF (layL (kidsL t.2) i 1 (kidsL y.l))), ⟨2, i, lenF y.l, 0⟩) := by rw [HF.out, if_pos hhd]
      have hll : (layK ks i (i + 1) vs).length ≤ 2097152 := by
        rw [layK_len (by omega) (by have := HKL.out; omega)]
        have := HKL.out; have := HVL.out; have := hyb.out; have := HLN.out
        omega
      have hBB : ∀ q, (B' q ∧ q < w.heap.size) → q < W2.heap.size ∧ ((some (⟨g, 0, none⟩ : Addr)).map Addr.block ≠ some q) ∧ q ≠ b ∧ (A q ∨ w.heap.size ≤ q) := fun q hq => by
        have hA := HB'.out q hq.1
        refine ⟨Nat.lt_of_lt_of_le hq.2 HBW.out.size, fun h => ?_, fun h => ?_, .inl hA.1⟩
        · have h : some g = some q := h
          exact hA.2 (Option.some.inj h).symm
        · exact HP.out.out (h ▸ hA.1)
      obtain ⟨g', c', hg', hU⟩ := upd_lay (B := fun q => B' q ∧ q < w.heap.size) HP.out HBW.out HE.out ((HGL.out.within fulE).keep fulE (fun q hq hlt => HBW.out.block q hq.2)) hBB (by omega)
      · refine DeedEnd.yes (q := ⟨2, i, lenF y.l, 0⟩) hfl (by rw [layK_map, HKS.out, HVS.out, kids_mk]) (hU.keep (sets5_below (Below.refl 0 w3) (Nat.zero_le _) _ _ _ _ _) (fun q hq => sets5_far ?_ _ _ _ _ _) HBL.out)
        have hw2 := HBW.out.size
        rcases hq with hq | hq
        · omega
        · rcases hq with hq | hq
          · have := hq.2; omega
          · have h1 := HGL2.out
            have h3 := HSZ.out
            have h4 := HSZ2.out
            rcases hg' with h | h
            · have h : some g = some g' := h
              have := Option.some.inj h
              omega
            · omega
    · have hs1 : (y.x.2 == t.1.2) = false := by simp [hs]
      go_wp2_with fail
      refine wp_region_later (by kernel_rfl) (by kernel_rfl) ?_
      repeat (go_big_quiet_step (fail))
      refine wpQuiet_nil ?_
      intro _ hw'
      obtain ⟨b2, hw''⟩ := hw'
      subst hw''
      have HZ := hid (((HT.out.z.below HB1.out).below b2.below))
      have z0 := HZ.out.v (k := 0) rfl; have z1 := HZ.out.v (k := 1) rfl; have z2 := HZ.out.v (k := 2) rfl; have z3 := HZ.out.v (k := 3) rfl; have z4 := HZ.out.v (k := 4) rfl
      have f0 := HZ.out.f 0; have f1 := HZ.out.f 1; have f2 := HZ.out.f 2; have f3 := HZ.out.f 3; have f4 := HZ.out.f 4
      go_wp2
      refine ret_step rfl rfl (sets5_box HZ.out _ _ _ _ _) rfl rfl ?_
      exact DeedEnd.not (by rw [HF.out]; unfold headed; rw [show (y.tn.1.2 == t.1.2) = false from hs1, Bool.and_false]; rfl) (sets5_below ((HT.out.low.trans (HB1.out.mono (by have := HSZ.out; omega))).trans (b2.below.mono (by have := HSZ.out; have := HB1.out.size; omega))) (by omega) _ _ _ _ _)
end Go.Proofs.Ytokbgbbkopmngaa
