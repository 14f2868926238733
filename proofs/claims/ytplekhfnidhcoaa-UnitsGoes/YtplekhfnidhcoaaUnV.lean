/- UnitsGoes' walk. -/
import Derived.Test.YtplekhfnidhcoaaUnT
import Derived.Deep.CutRange
import Derived.Deep.RegionHeld3
namespace Go.Proofs.Ytplekhfnidhcoaa
open Go.RowKit Go.Shelf Go.Deep

attribute [local go_sem] Oper.semAt_some

/-- Four boxes. -/
theorem four_new (w : World) (a b c d : Array Value) (ta tb tc td : TypeId) : let W := (((w.alloc (.cells a ta)).alloc (.cells b tb)).alloc (.cells c tc)).alloc (.cells d td)
    Box W w.heap.size ta a ∧ Box W (w.heap.size + 1) tb b ∧ Box W (w.heap.size + 2) tc c ∧ Box W (w.heap.size + 3) td d ∧ Below w.heap.size w W ∧ W.heap.size = w.heap.size + 4 := by
  have b1 := ((((Box.new w ta a).over (.cells b tb)).over (.cells c tc)).over (.cells d td))
  have b2 := ((Box.new (w.alloc (.cells a ta)) tb b).over (.cells c tc)).over (.cells d td)
  have b3 := (Box.new ((w.alloc (.cells a ta)).alloc (.cells b tb)) tc c).over (.cells d td)
  have b4 := Box.new (((w.alloc (.cells a ta)).alloc (.cells b tb)).alloc (.cells c tc)) td d
  simp only [World.size_alloc] at b2 b3 b4
  exact ⟨b1, b2, b3, b4, ((((Below.refl _ w).alloc (Nat.le_refl _) _).alloc (by simp only [World.size_alloc]; omega) _).alloc (by simp only [World.size_alloc]; omega) _).alloc (by simp only [World.size_alloc]; omega) _, by simp only [World.size_alloc]⟩
theorem results_c1 {fn : Func} {p : Tmp} {tp : TypeId} {P : Program} {tmps : Array Value} {w : World} {a : Addr} {x : Value} (h : fn.results = #[.cell p tp]) (hp : tmps.getD p undef = .pointer (some a))
    (la : (loadVar tp a).run P w = .ok x w) : (results fn tmps).run P w = .ok x w := by
  have hp' : tmps[p]?.getD undef = .pointer (some a) := by simpa using hp
  simp [results, h, hp', asAddr, la]
theorem load_bool {W : World} {B : Nat} {v : Bool} {t : TypeId} (h : W.heap[B]? = some (.cells #[.bool v] t (0, 0))) : (loadVar 4 ⟨B, 0, none⟩).run Try.prog W = .ok (.bool v) W := by
  have c0 : W.cell? ⟨B, 0, none⟩ = some (.bool v) := cell_box h rfl
  simp [go_sem, loadVar, c0]
/-- Within the range within. -/
def GoI (w3 : World) (E0 E1 : Nat) (rb r2 : Loop) (L2 j : Nat) (W : World) : Prop :=
  j = 0 ∧ GoK w3 E0 E1 W ∧ Box W (w3.heap.size + 1) 3 #[.int .i64 0] ∧ W.heap[w3.heap.size + 3]? = some (.loop rb) ∧ W.heap[L2]? = some (.loop r2)
/-- The range within, left. -/
def GoIX (w3 : World) (E0 E1 : Nat) (rb r2 : Loop) (L2 : Nat) (W : World) : Prop :=
  GoK w3 E0 E1 W ∧ Box W (w3.heap.size + 1) 3 #[.int .i64 0] ∧ W.heap[w3.heap.size + 3]? = some (.loop rb) ∧ W.heap[L2]? = some (.loop { r2 with state := .done, pending := some (.exit 4) })
theorem go_next {w3 : World} {E0 E1 : Nat} {V : World} {m : Int} {rb : Loop} (h : GoK w3 E0 E1 V) (hn : Box V (w3.heap.size + 1) 3 #[.int .i64 m]) (hl : V.heap[w3.heap.size + 3]? = some (.loop rb)) (m' : Int) (st : Loop) :
    GoK w3 E0 E1 ((V.setCell ⟨w3.heap.size + 1, 0, none⟩ (.int .i64 m')).putObj (w3.heap.size + 3) (.loop st)) ∧ Box ((V.setCell ⟨w3.heap.size + 1, 0, none⟩ (.int .i64 m')).putObj (w3.heap.size + 3) (.loop st)) (w3.heap.size + 1) 3 #[.int .i64 m'] ∧ ((V.setCell ⟨w3.heap.size + 1, 0, none⟩ (.int .i64 m')).putObj (w3.heap.size + 3) (.loop st)).heap[w3.heap.size + 3]? = some (.loop st) := by
  have g1 := h.fr (fr_set V (w3.heap.size + 1) 0 (.int .i64 m')) (fun q hq => by omega)
  have n1 := hn.set 0 (.int .i64 m')
  have l1 : (V.setCell ⟨w3.heap.size + 1, 0, none⟩ (.int .i64 m')).heap[w3.heap.size + 3]? = some (.loop rb) := (set_far (by omega) _).trans hl
  exact ⟨g1.fr (fr_one (w3.heap.size + 3) (.loop st)) (fun q hq => by omega), n1.fr (fr_one (w3.heap.size + 3) (.loop st)) (by omega), World.putObj_heap_same (Array.getElem?_eq_some_iff.1 l1).1⟩
theorem go_start (w3 : World) (E0 E1 : Nat) (r : Loop) (w5 : World) (h5 : w5 = (w3.alloc (.cells #[.func (.func 34) #[] #[.pointer (some ⟨E0, 0, none⟩), .pointer (some ⟨E1, 0, none⟩)]] 41)).alloc (.cells #[.int .i64 0] 3)) :
    w5.heap.size = w3.heap.size + 2 ∧ GoK w3 E0 E1 ((w5.alloc (.deferred (some []))).alloc (.loop r)) ∧ Box ((w5.alloc (.deferred (some []))).alloc (.loop r)) (w3.heap.size + 1) 3 #[.int .i64 0] ∧ ((w5.alloc (.deferred (some []))).alloc (.loop r)).heap[w3.heap.size + 3]? = some (.loop r) := by
  have b1 := (Box.new w3 41 #[.func (.func 34) #[] #[.pointer (some ⟨E0, 0, none⟩), .pointer (some ⟨E1, 0, none⟩)]]).over (.cells #[.int .i64 0] 3)
  have b2 := Box.new (w3.alloc (.cells #[.func (.func 34) #[] #[.pointer (some ⟨E0, 0, none⟩), .pointer (some ⟨E1, 0, none⟩)]] 41)) 3 #[.int .i64 0]
  have hs : w5.heap.size = w3.heap.size + 2 := by rw [h5]; simp only [World.size_alloc]
  have low : Below w3.heap.size w3 w5 := by rw [h5]; exact ((Below.refl _ w3).alloc (Nat.le_refl _) _).alloc (by simp only [World.size_alloc]; omega) _
  rw [← h5] at b1 b2
  rw [World.size_alloc] at b2
  have hD : (w5.alloc (.deferred (some []))).heap[w5.heap.size]? = some (.deferred (some [])) := World.alloc_heap_new w5 _
  have hDs : (w5.alloc (.deferred (some []))).heap.size = w5.heap.size + 1 := World.size_alloc _ _
  have hL := World.alloc_heap_new (w5.alloc (.deferred (some []))) (.loop r)
  rw [hDs, hs] at hL
  have hd2 := (Below.heap_alloc (w5.alloc (.deferred (some []))) (.loop r) w5.heap.size (by rw [hDs]; omega)).trans hD
  rw [hs] at hd2
  exact ⟨hs, ⟨(low.alloc low.size _).alloc (by rw [hDs]; have := low.size; omega) _, (b1.over _).over _, hd2⟩, (b2.over _).over _, hL⟩
set_option maxRecDepth 100000 in
set_option maxHeartbeats 8000000 in
theorem goes_walk (pu : Option Addr) (cu : Nat) (us : List Int) (pv : Option Addr) (cv : Nat) (vs : List ByteArray) (most0 : Int) (w : World) (hU : IntsAt w pu us) (hV : StrsAt w pv vs) (hu : us.length ≤ 17592186044416) (hv : vs.length ≤ 8796093022208) (hm : Is64 most0) :
    Calls Try.prog 5 #[.slice pu us.length cu, .slice pv vs.length cv, .int .i64 most0] w fun e w' => e = .returned (.bool true) ∧ Below w.heap.size w w' := by
  refine (callsIn_wide (n := 20)).1 ?_
  have h1 : 1 ≤ 20 := by omega
  obtain ⟨nu, hNU⟩ : ∃ n, us.length = n := ⟨_, rfl⟩
  obtain ⟨n, hN⟩ : ∃ n, vs.length = n := ⟨_, rfl⟩
  have HU := hid hU; have HV := hid hV; have HNU := hid hNU; have HN := hid hN; have HUZ := hid hu; have HVZ := hid hv
  obtain ⟨most, hmost, hm1, hm2⟩ : ∃ most : Int, most = (if most0 < 1 ∨ 200 < most0 then 200 else most0) ∧ 1 ≤ most ∧ most ≤ 200 := ⟨_, rfl, by split <;> omega, by split <;> omega⟩
  have HALL : Hid (∀ W, Below w.heap.size w W → Calls Try.prog 18 #[.slice pu nu cu, .slice pv n cv] W fun e w' => e = .returned (.func (.func 34) #[] #[.pointer (some ⟨W.heap.size, 0, none⟩), .pointer (some ⟨W.heap.size + 1, 0, none⟩)]) ∧ (∃ q0 d0 q1 d1, AllAt w' W.heap.size (W.heap.size + 1) q0 d0 us q1 d1 vs) ∧ Below W.heap.size W w') := hid (fun W hW => by
    have := all_any pu cu us pv cv vs W (hU.below hW) (hV.below hW) hu hv
    rw [hNU, hN] at this
    exact this)
  have HWY : Hid (∀ k : Nat, (k : Int) ≤ 200 → ∀ W, Below w.heap.size w W → Calls Try.prog 14 #[.slice pu nu cu, .slice pv n cv, .int .i64 (k : Int)] W fun e w' => ∃ v, e = .returned (.tuple #[v, .bool (wayO us vs (k : Int)).2]) ∧ BOwn w' W.heap.size v (wayO us vs (k : Int)).1 ∧ Below W.heap.size W w') := hid (fun k hk W hW => by
    have := rway_any pu cu us pv cv vs (k : Int) W (hU.below hW) (hV.below hW) hu (by omega) (by unfold Is64; omega)
    rw [hNU, hN] at this
    exact this)
  have HMN := hid (fun W => rmany_any pu nu cu pv n cv most (by omega) (by omega) (by unfold Is64; omega) W)
  rw [hNU, hN]
  obtain ⟨z0, z1, z2, z3, hzb, hzs⟩ := four_new w #[.slice pu nu cu] #[.slice pv n cv] #[.int .i64 most0] #[.bool false] 29 33 3 4
  have HZ0 := hid z0; have HZ1 := hid z1; have HZ2 := hid z2; have HZ3 := hid z3; have HZB := hid hzb; have HZS := hid hzs
  clear z0 z1 z2 z3 hzb hzs hU hV hNU hN hu hv
  refine callsIn_of_wp_marks Try.func5 rfl trivial (wpIn_wide.2 ?_) rfl
  simp only [Try.ntmps5, List.size_toArray, List.length_cons, List.length_nil, Nat.reduceAdd, Nat.reduceSub, Array.replicate_succ, Array.replicate_zero, List.push_toArray, List.append_toArray, List.nil_append, List.cons_append]
  go_wp2_with fail
  obtain ⟨W1, hW1⟩ : ∃ W1, (((w.alloc (.cells #[.slice pu nu cu] 29)).alloc (.cells #[.slice pv n cv] 33)).alloc (.cells #[.int .i64 most0] 3)).alloc (.cells #[.bool false] 4) = W1 := ⟨_, rfl⟩
  rw [hW1] at HZ0 HZ1 HZ2 HZ3 HZB HZS ⊢
  clear hW1
  refine (head_any _).mono ?_
  rintro e w1 ⟨rfl, hb1⟩
  have HX0 := hid (HZ0.out.below hb1); have HX1 := hid (HZ1.out.below hb1); have HX2 := hid (HZ2.out.below hb1); have HX3 := hid (HZ3.out.below hb1); have HXB := hid (HZB.out.trans (hb1.mono HZB.out.size))
  clear hb1 HZ0 HZ1 HZ2 HZ3 HZB HZS
  obtain ⟨Y, hY⟩ : ∃ Y, w.heap.size = Y := ⟨_, rfl⟩
  simp only [hY] at HX0 HX1 HX2 HX3 HXB HALL HWY ⊢
  have HY := hid hY
  clear hY
  have c2 : w1.cell? ⟨Y + 1 + 1, 0, none⟩ = some (.int .i64 most0) := HX2.out.c 0
  have f2 : w1.frozen? ⟨Y + 1 + 1, 0, none⟩ = false := HX2.out.f 0
  have HMO := hid hmost
  clear hmost
  go_upto_region 4 with fail
  go_cut [7, 23] from 18 to 22 (fun uv cv2 wc => uv = .bool true ∧ cv2 = .bool (decide (most0 < 1 ∨ 200 < most0)) ∧ wc = w1)
  case first =>
    by_cases hlo : most0 < 1
    · go_wp2_with fail
      go_meet
      exact ⟨rfl, congrArg Value.bool (decide_eq_true (p := most0 < 1 ∨ 200 < most0) (by omega)).symm, rfl⟩
    · by_cases hhi : 200 < most0
      · go_wp2_with fail
        go_meet
        exact ⟨rfl, congrArg Value.bool (decide_eq_true (p := most0 < 1 ∨ 200 < most0) (by omega)).symm, rfl⟩
      · go_wp2_with fail
        go_meet
        exact ⟨rfl, congrArg Value.bool (decide_eq_false (p := most0 < 1 ∨ 200 < most0) (by omega)).symm, rfl⟩
  case rest =>
  obtain ⟨rfl, rfl, rfl⟩ := hcut
  go_upto_if 23 with fail
  go_cut [7] from 18 to 23 (fun uv wc => uv = .bool true ∧ Box wc Y 29 #[.slice pu nu cu] ∧ Box wc (Y + 1) 33 #[.slice pv n cv] ∧ Box wc (Y + 2) 3 #[.int .i64 most] ∧ Box wc (Y + 3) 4 #[.bool false] ∧ Below Y w wc)
  case first =>
    by_cases hbad : most0 < 1 ∨ 200 < most0
    · have hdb : decide (most0 < 1 ∨ 200 < most0) = true := decide_eq_true hbad
      have hmm : most = 200 := by rw [HMO.out, if_pos hbad]
      subst hmm
      have HW2 : Hid (Box (wc.setCell ⟨Y + 1 + 1, 0, none⟩ (.int .i64 200)) Y 29 #[.slice pu nu cu] ∧ Box (wc.setCell ⟨Y + 1 + 1, 0, none⟩ (.int .i64 200)) (Y + 1) 33 #[.slice pv n cv] ∧ Box (wc.setCell ⟨Y + 1 + 1, 0, none⟩ (.int .i64 200)) (Y + 2) 3 #[.int .i64 200] ∧ Box (wc.setCell ⟨Y + 1 + 1, 0, none⟩ (.int .i64 200)) (Y + 3) 4 #[.bool false] ∧ Below Y w (wc.setCell ⟨Y + 1 + 1, 0, none⟩ (.int .i64 200))) := hid
        ⟨HX0.out.far (by omega) 0 _, HX1.out.far (by omega) 0 _, HX2.out.set 0 _, HX3.out.far (by omega) 0 _, HXB.out.trans ((fr_set wc (Y + 1 + 1) 0 _).below (fun q hq => by omega) (Nat.le_trans (by omega) (Nat.le_of_lt HX3.out.lt)))⟩
      rw [hdb]
      clear hbad hdb
      go_wp2_with fail
      go_meet
      exact ⟨rfl, HW2.out⟩
    · have hdb : decide (most0 < 1 ∨ 200 < most0) = false := decide_eq_false hbad
      have hmm : most = most0 := by rw [HMO.out, if_neg hbad]
      subst hmm
      rw [hdb]
      clear hbad hdb
      go_wp2_with fail
      go_meet
      exact ⟨rfl, HX0.out, HX1.out, HX2.out, HX3.out, HXB.out⟩
  case rest =>
  obtain ⟨rfl, z0, z1, z2, z3, zb⟩ := hcut
  have y0 : wc.cell? ⟨Y, 0, none⟩ = some (.slice pu nu cu) := z0.c 0
  have y1 : wc.cell? ⟨Y + 1, 0, none⟩ = some (.slice pv n cv) := z1.c 0
  have K0 := hid z0; have K1 := hid z1; have K2 := hid z2; have K3 := hid z3; have KB := hid zb
  clear z0 z1 z2 z3 zb c2 f2 HX0 HX1 HX2 HX3 HXB HMO
  go_wp2_with fail
  refine (HALL.out wc KB.out).mono ?_
  rintro e w3 ⟨rfl, ⟨q0, d0, q1, d1, hall⟩, hb3⟩
  have KA := hid hall
  have G0 := hid (K0.out.below hb3); have G1 := hid (K1.out.below hb3); have G2 := hid (K2.out.below hb3); have G3 := hid (K3.out.below hb3); have GB := hid (KB.out.trans (hb3.mono (by have := K3.out.lt; omega))); have GY : Hid (Y + 3 < w3.heap.size) := hid (Nat.lt_of_lt_of_le K3.out.lt hb3.size)
  clear hall hb3 y0 y1 K0 K1 K2 K3 KB HALL
  obtain ⟨E0, hE0⟩ : ∃ E, wc.heap.size = E := ⟨_, rfl⟩
  rw [hE0] at KA ⊢
  clear hE0
  go_wp2_with fail
  have HST := hid (fun r => go_start w3 E0 (E0 + 1) r _ rfl)
  generalize (w3.alloc (.cells #[.func (.func 34) #[] #[.pointer (some ⟨E0, 0, none⟩), .pointer (some ⟨E0 + 1, 0, none⟩)]] 41)).alloc (.cells #[.int .i64 0] 3) = w5 at HST ⊢
  have hs5 := (HST.out default).1
  have HS5 := hid hs5
  clear hs5
  refine (wpIn_wide (n := 20)).1 ?_
  refine range_law (n := 20) rfl (by omega) (gf := 34) (lb := #[.pointer (some ⟨E0, 0, none⟩), .pointer (some ⟨E0 + 1, 0, none⟩)]) rfl trivial (enters_of Try.func34 (by kernel_rfl) rfl) ?_
  intro r hr1 hr2 hr3 hr4 hr5 hr6 hr7
  obtain ⟨hs9, hK0, hNB0, hL0⟩ := HST.out r
  clear hs9
  rw [HS5.out]
  obtain ⟨M, hM, hM2, hM3⟩ := many_pos us.length vs.length
  have HM := hid hM; have HM3 := hid hM3
  have hM1 : 1 ≤ M := by
    rcases Nat.eq_zero_or_pos M with h | h
    · rw [h] at hM
      unfold manyO at hM
      rw [if_neg (by omega)] at hM
      have := Nat.pow_pos (n := vs.length) (show 0 < us.length + 1 by omega)
      split at hM <;> omega
    · exact h
  refine (all_in (20 - 1) (by omega) (w3.heap.size + 2 + 1) E0 (E0 + 1) q0 d0 us q1 d1 vs HUZ.out (by have := HVZ.out; omega) M hM hM2 (GoJ w3 E0 (E0 + 1) most r) (GoX w3 E0 (E0 + 1) most r M) (fun k W h => KA.out.below h.1.low) ?_ _ ⟨hK0, hNB0, hL0, by omega⟩).mono ?_
  · rintro k W0 W v hk ⟨hgk, hnb, hlp, hkm⟩ hWb hown
    have hlp' := loop_below hlp hWb
    suffices key : ∀ RR : Ending → World → Prop, Hid (∀ W', GoJ w3 E0 (E0 + 1) most r (k + 1) W' → RR (.returned (.bool true)) W') → Hid (∀ W', GoX w3 E0 (E0 + 1) most r M W' → RR (.returned (.bool false)) W') → YieldAt Fence.wide (20 - 1 - 1) Try.prog (w3.heap.size + 2 + 1) #[v] W RR from key _ (hid fun W' h => .inl ⟨rfl, h⟩) (hid fun W' h => .inr ⟨rfl, h⟩)
    intro RR HRT HRF
    refine yield_by hr5 hr6 hr3 hr4 hlp' hr1 rfl hr7 ?_
    have HGK := hid (hgk.below hWb); have HNB := hid (hnb.below hWb); have HLP := hid hlp'; have HSW : Hid (w3.heap.size + 3 < W0.heap.size) := hid (Array.getElem?_eq_some_iff.1 hlp).1
    have hk200 : (k : Int) ≤ 199 := by omega
    have HOK := hid (wayO_ok (us := us) (vs := vs) (HM3.out k hk))
    have hsm := wayO_small us vs (k : Int) (by unfold Is64; omega)
    obtain ⟨p1, c1, rfl⟩ := hown.form
    have HOW := hid hown
    clear hgk hnb hlp hlp' hown hWb hr3 hr4 hr5 hr6 hK0 hNB0 hL0 hM hM3
    simp only [List.zip_toArray, List.zip_cons_cons, List.zip_nil_right, List.foldl_toArray, List.foldl_cons, List.foldl_nil, List.setIfInBounds_toArray, List.set_cons_succ, List.set_cons_zero]
    gi_wp2
    refine ⟨HLP.out, ?_⟩
    have hlt : w3.heap.size + 3 < W.heap.size := (Array.getElem?_eq_some_iff.1 HLP.out).1
    have HGK2 := hid (HGK.out.fr (fr_one (w3.heap.size + 3) (.loop { r with state := .busy })) (fun q hq => by omega))
    have HNB2 := hid (HNB.out.fr (fr_one (w3.heap.size + 3) (.loop { r with state := .busy })) (by omega))
    have HLP2 : Hid ((W.putObj (w3.heap.size + 3) (.loop { r with state := .busy })).heap[w3.heap.size + 3]? = some (.loop { r with state := .busy })) := hid (World.putObj_heap_same hlt)
    have HOW2 := hid (HOW.out.fr (fr_one (w3.heap.size + 3) (.loop { r with state := .busy })) (fun g hg e => by subst e; exact HOW.out.ne HLP.out (fun cur e => by cases e) hg))
    clear HGK HNB HLP HOW hlt
    show Code.wpIn _ _ _ _ _ _ (W.putObj (w3.heap.size + 3) (.loop { r with state := .busy }))
    generalize W.putObj (w3.heap.size + 3) (.loop { r with state := .busy }) = W2 at HGK2 HNB2 HLP2 HOW2 ⊢
    have y0 : W2.cell? ⟨Y, 0, none⟩ = some (.slice pu nu cu) := (G0.out.below HGK2.out.low).c 0
    have y1 : W2.cell? ⟨Y + 1, 0, none⟩ = some (.slice pv n cv) := (G1.out.below HGK2.out.low).c 0
    have y2 : W2.cell? ⟨w3.heap.size + 1, 0, none⟩ = some (.int .i64 (k : Int)) := HNB2.out.c 0
    have HLOW : Hid (∀ V, GoK w3 E0 (E0 + 1) V → Below Y w V) := hid (fun V hV => GB.out.trans (hV.low.mono (by have := GY.out; omega)))
    gi_wp2_with fail
    refine ⟨trivial, ?_⟩
    refine CallsIn.inRound _ (callsIn_wide.2 ((HWY.out k (by omega) W2 (HLOW.out _ HGK2.out)).mono ?_))
    rintro e w9 ⟨v2, rfl, ho2, hb9⟩
    obtain ⟨p2, c2', rfl⟩ := ho2.form
    rw [HOK.out]
    have hA1 := (HOW2.out.rd (by unfold maxLen; omega)).below hb9
    have hA2 := ho2.rd (by unfold maxLen; omega)
    have HOW9 := hid (HOW2.out.below hb9); have HGK9 := hid (HGK2.out.below hb9); have HNB9 := hid (HNB2.out.below hb9); have HLP9 := hid (loop_below HLP2.out hb9)
    obtain ⟨xs, hxs⟩ : ∃ l, (wayO us vs (k : Int)).1 = l := ⟨_, rfl⟩
    have HXS := hid hxs
    rw [hxs] at hA1 hA2 HOW9 hsm ⊢
    obtain ⟨q, hq⟩ : ∃ q, xs.length = q := ⟨_, rfl⟩
    have HSM := hid (rsame_any p1 c1 xs p2 c2' xs w9 hA1 hA2)
    rw [hq, decide_eq_true rfl] at HSM
    rw [hq]
    have HQ := hid hq
    have hqz : (q : Int) ≤ 63 := by omega
    clear ho2 hb9 hA1 hA2 hxs hq hsm HGK2 HNB2 HLP2 HOW2 y0 y1 y2
    gi_wp2_with fail
    refine ⟨trivial, ?_⟩
    refine CallsIn.inRound _ (callsIn_wide.2 (HSM.out.mono ?_))
    rintro e w10 ⟨rfl, hb10⟩
    have HOW10 := hid (HOW9.out.below hb10); have HGK10 := hid (HGK9.out.below hb10); have HNB10 := hid (HNB9.out.below hb10); have HLP10 := hid (loop_below HLP9.out hb10)
    clear hb10 HOW9 HGK9 HNB9 HLP9 HSM
    have HPB : Hid (∀ i, i < q → ∃ g, p1 = some ⟨g, 0, none⟩ ∧ SpAt w10 g q) := hid (fun i hi => by
      have := HOW10.out
      rw [HQ.out] at this
      rcases this.cases with ⟨_, h9⟩ | ⟨g, cap, h9, _⟩
      · have := HQ.out
        rw [h9] at this
        simp only [List.length_nil] at this
        omega
      · injection h9 with e1 e2 e3
        subst e1
        refine ⟨g, rfl, ?_⟩
        have := sp_of this
        rw [HQ.out] at this
        exact this)
    have HOB : Hid (∀ g, p1.map Addr.block = some g → W0.heap.size ≤ g) := hid (fun g hg => (HOW10.out.ge (g := g) (by
      have := HOW10.out
      rw [HQ.out] at this ⊢
      rcases this.cases with ⟨h9, _⟩ | ⟨g', cap, h9, _⟩
      · injection h9 with e1 _ _
        subst e1
        cases hg
      · injection h9 with e1 _ _
        subst e1
        exact hg)).1)
    gi_wp2_with fail
    gi_loopw [13] (fun iv wr => ∃ i : Nat, i ≤ q ∧ iv = .int .i64 i ∧ Fr (fun x => p1.map Addr.block = some x) w10 wr ∧ (∀ i', i' < q → ∃ g, p1 = some ⟨g, 0, none⟩ ∧ SpAt wr g q)) (fun iv _ => q - (intOf iv).toNat)
    case atStart => exact ⟨0, Nat.zero_le _, rfl, Fr.refl _ _, HPB.out⟩
    case round =>
      obtain ⟨i, hi, rfl, hfr, hsp⟩ := hrel
      have HFR := hid hfr; have HSP := hid hsp
      clear hfr hsp
      by_cases hiq : i < q
      · obtain ⟨g, rfl, hsg⟩ := HSP.out i hiq
        obtain ⟨u, hu1⟩ := hsg.cell i hiq
        have hf1 := hsg.free (i * 4)
        have hiz : (i : Int) < (q : Int) := by omega
        have HSG := hid hsg
        clear hsg
        gi_wp2
        go_roundw
        case rel => exact ⟨i + 1, by omega, by go_num, HFR.out.trans ((fr_set wr g (i * 4) _).mono (fun x hx => by rw [hx]; rfl)), fun i' hi' => ⟨g, rfl, HSG.out.set _ _⟩⟩
        case measure => simp [intOf]; omega
      · have hA : ∀ x, p1.map Addr.block = some x → w3.heap.size < x ∧ x ≠ w3.heap.size + 2 := fun x hx => by have := HOB.out x hx; have := HSW.out; omega
        have HGW := hid (HGK10.out.fr HFR.out hA)
        have HNW := hid (HNB10.out.fr HFR.out (fun hx => by have := HOB.out _ hx; have := HSW.out; omega))
        have HLW : Hid (wr.heap[w3.heap.size + 3]? = some (.loop { r with state := .busy })) := hid ((HFR.out.same _ (Array.getElem?_eq_some_iff.1 HLP10.out).1 (fun hx => by have := HOB.out _ hx; have := HSW.out; omega)).trans HLP10.out)
        have hiz : (q : Int) ≤ (i : Int) := by omega
        have n0 : wr.cell? ⟨w3.heap.size + 1, 0, none⟩ = some (.int .i64 (k : Int)) := HNW.out.c 0
        clear hA HFR HSP HPB HGK10 HNB10 HLP10 HOW10
        by_cases hk0 : k = 0
        · subst hk0
          have n00 : wr.cell? ⟨w3.heap.size + 1, 0, none⟩ = some (.int .i64 0) := n0
          have s00 : wr.cell? ⟨w3.heap.size, 0, none⟩ = some (.func (.func 34) #[] #[.pointer (some ⟨E0, 0, none⟩), .pointer (some ⟨E0 + 1, 0, none⟩)]) := HGW.out.s.c 0
          clear n0
          gi_wp2
          have hVL : w3.heap.size + 3 < wr.heap.size := (Array.getElem?_eq_some_iff.1 HLW.out).1
          have hnb9 : Box wr (w3.heap.size + 1) 3 #[.int .i64 0] := HNW.out
          refine range_inner rfl HLW.out (by omega) (gf := 34) (lb := #[.pointer (some ⟨E0, 0, none⟩), .pointer (some ⟨E0 + 1, 0, none⟩)]) rfl trivial (enters_of Try.func34 (by kernel_rfl) rfl) ?_
          intro r2 g1 g2 g3 g4 g5 g6 g7
          have bA := alloc_below0 wr (.loop r2)
          have hL2 : (wr.alloc (.loop r2)).heap[wr.heap.size]? = some (.loop r2) := World.alloc_heap_new wr _
          refine (CallsIn.inRound _ (all_in (20 - 1 - 1 - 1) (by omega) wr.heap.size E0 (E0 + 1) q0 d0 us q1 d1 vs HUZ.out (by have := HVZ.out; omega) M HM.out hM2 (GoI w3 E0 (E0 + 1) { r with state := .busy } r2 wr.heap.size) (GoIX w3 E0 (E0 + 1) { r with state := .busy } r2 wr.heap.size) (fun j W h => KA.out.below h.2.1.low) ?_ _ ⟨rfl, HGW.out.below bA, hnb9.below bA, loop_below HLW.out bA, hL2⟩)).mono ?_
          · rintro j W0' W' v' hj ⟨rfl, i1, i2, i3, i4⟩ hb' hown'
            have hz : (wayO us vs ((0 : Nat) : Int)).1 = [] := wayO_first us vs
            rw [hz] at hown'
            obtain ⟨p9, c9, rfl⟩ := hown'.form
            rw [List.length_nil]
            have hl' := loop_below i4 hb'
            suffices key : ∀ RR2 : Ending → World → Prop, Hid (∀ V, GoIX w3 E0 (E0 + 1) { r with state := .busy } r2 wr.heap.size V → RR2 (.returned (.bool false)) V) → YieldAt Fence.wide (20 - 1 - 1 - 1 - 1) Try.prog wr.heap.size #[.slice p9 0 c9] W' RR2 from key _ (hid fun V h => .inr ⟨rfl, h⟩)
            intro RR2 HR2
            refine yield_by g5 g6 g3 g4 hl' g1 rfl g7 ?_
            have I1 := hid (i1.below hb'); have I2 := hid (i2.below hb'); have I3 := hid (loop_below i3 hb'); have I4 := hid hl'
            have HVL := hid hVL
            clear i1 i2 i3 i4 hb' hown' hl' g1 g2 g3 g4 g5 g6 n00 s00 hnb9 bA hL2 hVL HNW HGW HLW hz
            simp only [List.zip_toArray, List.zip_cons_cons, List.zip_nil_right, List.foldl_toArray, List.foldl_cons, List.foldl_nil, List.setIfInBounds_toArray, List.set_cons_succ, List.set_cons_zero]
            gi_wp2
            refine ⟨I4.out, ?_⟩
            have hlt2 : wr.heap.size < W'.heap.size := (Array.getElem?_eq_some_iff.1 I4.out).1
            have HIN : Hid (∀ st : Loop, ((W'.putObj wr.heap.size (.loop { r2 with state := .busy })).heap[wr.heap.size]? = some (.loop { r2 with state := .busy })) ∧ GoK w3 E0 (E0 + 1) ((W'.putObj wr.heap.size (.loop { r2 with state := .busy })).putObj wr.heap.size (.loop st)) ∧ Box ((W'.putObj wr.heap.size (.loop { r2 with state := .busy })).putObj wr.heap.size (.loop st)) (w3.heap.size + 1) 3 #[.int .i64 0] ∧ ((W'.putObj wr.heap.size (.loop { r2 with state := .busy })).putObj wr.heap.size (.loop st)).heap[w3.heap.size + 3]? = some (.loop { r with state := .busy }) ∧ ((W'.putObj wr.heap.size (.loop { r2 with state := .busy })).putObj wr.heap.size (.loop st)).heap[wr.heap.size]? = some (.loop st)) := hid (fun st => by
              have hv := HVL.out
              have e1 := World.putObj_heap_same (w := W') (o := .loop { r2 with state := .busy }) hlt2
              exact ⟨e1, (I1.out.fr (fr_one wr.heap.size _) (fun q hq => by omega)).fr (fr_one wr.heap.size _) (fun q hq => by omega), (I2.out.fr (fr_one wr.heap.size _) (by omega)).fr (fr_one wr.heap.size _) (by omega), (World.putObj_heap_other (by omega)).trans ((World.putObj_heap_other (by omega)).trans I3.out), World.putObj_heap_same (Array.getElem?_eq_some_iff.1 e1).1⟩)
            clear hlt2
            gi_wp2
            exact ⟨(HIN.out default).1, HR2.out _ (HIN.out _).2⟩
          · rintro e W9 ⟨⟨vv, rfl⟩, (⟨h0, _⟩ | ⟨i1, i2, i3, i4⟩)⟩
            · exfalso; omega
            · refine ⟨⟨vv, rfl⟩, .inr ⟨.exit 4, i4, ?_⟩⟩
              have j1 := i1.fr (fr_one wr.heap.size (.loop { r2 with state := .exhausted, pending := some (.exit 4) })) (fun q hq => by omega)
              have j2 := i2.fr (fr_one wr.heap.size (.loop { r2 with state := .exhausted, pending := some (.exit 4) })) (by omega)
              have j3 : (W9.putObj wr.heap.size (.loop { r2 with state := .exhausted, pending := some (.exit 4) })).heap[w3.heap.size + 3]? = some (.loop { r with state := .busy }) := (World.putObj_heap_other (by omega)).trans i3
              clear i1 i2 i3 i4 g1 g2 g3 g4 g5 g6 g7 n00 s00 hnb9 bA hL2 HNW HGW HLW hVL
              generalize W9.putObj wr.heap.size (.loop { r2 with state := .exhausted, pending := some (.exit 4) }) = VV at j1 j2 j3 ⊢
              have HGV := hid j1; have HNV := hid j2; have HLV := hid j3
              clear j1 j2 j3
              have nv : VV.cell? ⟨w3.heap.size + 1, 0, none⟩ = some (.int .i64 (0 : Int)) := HNV.out.c 0
              have fv : VV.frozen? ⟨w3.heap.size + 1, 0, none⟩ = false := HNV.out.f 0
              have q1 : (VV.setCell ⟨w3.heap.size + 1, 0, none⟩ (.int .i64 ((1 : Int)))).cell? ⟨w3.heap.size + 1, 0, none⟩ = some (.int .i64 ((1 : Int))) := (HNV.out.set 0 _).c 0
              have q2 : (VV.setCell ⟨w3.heap.size + 1, 0, none⟩ (.int .i64 ((1 : Int)))).cell? ⟨Y + 1 + 1, 0, none⟩ = some (.int .i64 most) := ((G2.out.below HGV.out.low).far (by have := GY.out; omega) 0 _).c 0
              have HNX : Hid (∀ st : Loop, GoK w3 E0 (E0 + 1) ((VV.setCell ⟨w3.heap.size + 1, 0, none⟩ (.int .i64 ((1 : Int)))).putObj (w3.heap.size + 3) (.loop st)) ∧ Box ((VV.setCell ⟨w3.heap.size + 1, 0, none⟩ (.int .i64 ((1 : Int)))).putObj (w3.heap.size + 3) (.loop st)) (w3.heap.size + 1) 3 #[.int .i64 ((1 : Int))] ∧ ((VV.setCell ⟨w3.heap.size + 1, 0, none⟩ (.int .i64 ((1 : Int)))).putObj (w3.heap.size + 3) (.loop st)).heap[w3.heap.size + 3]? = some (.loop st)) := hid (go_next HGV.out HNV.out HLV.out _)
              have HLN : Hid ((VV.setCell ⟨w3.heap.size + 1, 0, none⟩ (.int .i64 ((1 : Int)))).heap[w3.heap.size + 3]? = some (.loop { r with state := .busy })) := hid ((set_far (by omega) _).trans HLV.out)
              by_cases he : (1 : Int) = most
              · have heb : (((1 : Int) : Int) == most) = true := by simp [he]
                have HE := hid he
                clear he
                gi_wp2
                exact ⟨HLN.out, HRF.out _ ⟨(HNX.out _).1, by rw [← HE.out]; exact (HNX.out _).2.1, (HNX.out _).2.2, by rw [← HE.out]; omega⟩⟩
              · have heb : (((1 : Int) : Int) == most) = false := beq_eq_false_iff_ne.2 he
                have HE := hid he
                clear he
                gi_wp2
                exact ⟨HLN.out, HRT.out _ ⟨(HNX.out _).1, (HNX.out _).2.1, by rw [← loop_again hr1 hr2]; exact (HNX.out _).2.2, by have := HE.out; omega⟩⟩
        · have hkz : ¬ ((k : Int) = 0) := by omega
          have hkb : ((k : Int) == 0) = false := beq_eq_false_iff_ne.2 hkz
          have HGV := hid HGW.out; have HNV := hid HNW.out; have HLV := hid HLW.out
          have nv : wr.cell? ⟨w3.heap.size + 1, 0, none⟩ = some (.int .i64 (k : Int)) := HNV.out.c 0
          have fv : wr.frozen? ⟨w3.heap.size + 1, 0, none⟩ = false := HNV.out.f 0
          have q1 : (wr.setCell ⟨w3.heap.size + 1, 0, none⟩ (.int .i64 ((k : Int) + 1))).cell? ⟨w3.heap.size + 1, 0, none⟩ = some (.int .i64 ((k : Int) + 1)) := (HNV.out.set 0 _).c 0
          have q2 : (wr.setCell ⟨w3.heap.size + 1, 0, none⟩ (.int .i64 ((k : Int) + 1))).cell? ⟨Y + 1 + 1, 0, none⟩ = some (.int .i64 most) := ((G2.out.below HGV.out.low).far (by have := GY.out; omega) 0 _).c 0
          have HNX : Hid (∀ st : Loop, GoK w3 E0 (E0 + 1) ((wr.setCell ⟨w3.heap.size + 1, 0, none⟩ (.int .i64 ((k : Int) + 1))).putObj (w3.heap.size + 3) (.loop st)) ∧ Box ((wr.setCell ⟨w3.heap.size + 1, 0, none⟩ (.int .i64 ((k : Int) + 1))).putObj (w3.heap.size + 3) (.loop st)) (w3.heap.size + 1) 3 #[.int .i64 ((k : Int) + 1)] ∧ ((wr.setCell ⟨w3.heap.size + 1, 0, none⟩ (.int .i64 ((k : Int) + 1))).putObj (w3.heap.size + 3) (.loop st)).heap[w3.heap.size + 3]? = some (.loop st)) := hid (go_next HGV.out HNV.out HLV.out _)
          have HLN : Hid ((wr.setCell ⟨w3.heap.size + 1, 0, none⟩ (.int .i64 ((k : Int) + 1))).heap[w3.heap.size + 3]? = some (.loop { r with state := .busy })) := hid ((set_far (by omega) _).trans HLV.out)
          by_cases he : (k : Int) + 1 = most
          · have heb : (((k : Int) + 1 : Int) == most) = true := by simp [he]
            have HE := hid he
            clear he
            gi_wp2
            exact ⟨HLN.out, HRF.out _ ⟨(HNX.out _).1, by rw [← HE.out]; exact (HNX.out _).2.1, (HNX.out _).2.2, by rw [← HE.out]; omega⟩⟩
          · have heb : (((k : Int) + 1 : Int) == most) = false := beq_eq_false_iff_ne.2 he
            have HE := hid he
            clear he
            gi_wp2
            exact ⟨HLN.out, HRT.out _ ⟨(HNX.out _).1, (HNX.out _).2.1, by rw [← loop_again hr1 hr2]; exact (HNX.out _).2.2, by have := HE.out; omega⟩⟩
  · rintro e W ⟨⟨vv, rfl⟩, (⟨hgk, hnb, hlp, hkm⟩ | ⟨hgk, hnb, hlp, hmM⟩)⟩
    · obtain ⟨Ni, hNi⟩ : ∃ Ni : Int, (M : Int) = Ni := ⟨_, rfl⟩
      have HMC := HMN
      rw [show manyO nu n most = Ni by rw [← hNi, ← HNU.out, ← HN.out]; exact many_all HM.out hkm hm2] at HMC
      rw [hNi] at hnb
      refine ⟨⟨vv, rfl⟩, hgk.df, .inl ⟨hlp, ?_⟩⟩
      have j1 := hgk.fr (fr_one (w3.heap.size + 3) (.loop { r with state := .exhausted })) (fun q hq => by omega)
      have j2 := hnb.fr (fr_one (w3.heap.size + 3) (.loop { r with state := .exhausted })) (by omega)
      clear hgk hnb hlp hkm hr1 hr2 hr3 hr4 hr5 hr6 hr7 hK0 hNB0 hL0 hNi hM hM3
      show Exit.inBlock 0 _ _ _ (W.putObj (w3.heap.size + 3) (.loop { r with state := .exhausted }))
      generalize W.putObj (w3.heap.size + 3) (.loop { r with state := .exhausted }) = VV at j1 j2 ⊢
      have HGV := hid j1; have HNV := hid j2
      clear j1 j2
      have HB3 := hid (G3.out.below HGV.out.low)
      have HSS : Hid (VV.drew.cell? ⟨w3.heap.size + 1, 0, none⟩ = some (.int .i64 Ni) ∧ VV.drew.cell? ⟨Y, 0, none⟩ = some (.slice pu nu cu) ∧ VV.drew.cell? ⟨Y + 1, 0, none⟩ = some (.slice pv n cv) ∧ VV.drew.cell? ⟨Y + 1 + 1, 0, none⟩ = some (.int .i64 most)) := hid ⟨HNV.out.c 0, (G0.out.below HGV.out.low).c 0, (G1.out.below HGV.out.low).c 0, (G2.out.below HGV.out.low).c 0⟩
      have HSX : Hid ((VV.setCell ⟨Y + 1 + 1 + 1, 0, none⟩ (.bool true)).drew.cell? ⟨w3.heap.size + 1, 0, none⟩ = some (.int .i64 Ni) ∧ (VV.setCell ⟨Y + 1 + 1 + 1, 0, none⟩ (.bool true)).drew.cell? ⟨Y, 0, none⟩ = some (.slice pu nu cu) ∧ (VV.setCell ⟨Y + 1 + 1 + 1, 0, none⟩ (.bool true)).drew.cell? ⟨Y + 1, 0, none⟩ = some (.slice pv n cv) ∧ (VV.setCell ⟨Y + 1 + 1 + 1, 0, none⟩ (.bool true)).drew.cell? ⟨Y + 1 + 1, 0, none⟩ = some (.int .i64 most)) := hid ⟨(HNV.out.far (by have := GY.out; omega) 0 _).c 0, ((G0.out.below HGV.out.low).far (by omega) 0 _).c 0, ((G1.out.below HGV.out.low).far (by omega) 0 _).c 0, ((G2.out.below HGV.out.low).far (by omega) 0 _).c 0⟩
      have e3 : VV.drew.cell? ⟨Y + 1 + 1 + 1, 0, none⟩ = some (.bool false) := HB3.out.c 0
      have f3 : VV.drew.frozen? ⟨Y + 1 + 1 + 1, 0, none⟩ = false := HB3.out.f 0
      have hni : (Ni == Ni) = true := by simp
      have HEND : Hid ((VV.setCell ⟨Y + 1 + 1 + 1, 0, none⟩ (.bool true)).drew.heap[w3.heap.size + 2]? = some (.deferred (some [])) ∧ Box (VV.setCell ⟨Y + 1 + 1 + 1, 0, none⟩ (.bool true)).drew (Y + 3) 4 #[.bool true] ∧ Below Y w (VV.setCell ⟨Y + 1 + 1 + 1, 0, none⟩ (.bool true)).drew) := hid ⟨(set_far (by have := GY.out; omega) _).trans HGV.out.df, HB3.out.set 0 _, ((GB.out.trans (HGV.out.low.mono (by have := GY.out; omega))).trans ((fr_set VV (Y + 3) 0 _).below (fun q hq => by omega) (by have := GY.out; have := HGV.out.low.size; omega))).drew⟩
      go_wp2_with fail
      go_region_held3 (fun V => V.cell? ⟨w3.heap.size + 1, 0, none⟩ = some (.int .i64 Ni) ∧ V.cell? ⟨Y, 0, none⟩ = some (.slice pu nu cu) ∧ V.cell? ⟨Y + 1, 0, none⟩ = some (.slice pv n cv) ∧ V.cell? ⟨Y + 1 + 1, 0, none⟩ = some (.int .i64 most)) ((first | exact HSS.out | exact HSX.out | go_keep | fail)) ((first
        | (go_at_call 17; refine Calls.mono (HMC.out _) ?_; rintro e w9 ⟨rfl, rfl⟩)
        | fail))
      all_goals
        clear e3 f3
        generalize (VV.setCell ⟨Y + 1 + 1 + 1, 0, none⟩ (.bool true)).drew = V9 at HEND ⊢
        go_wp2_with fail
        refine ⟨by simp, .inl ⟨_, _, rfl, run_takeDeferred HEND.out.1, ?_⟩⟩
        refine ⟨_, results_c1 rfl rfl (load_bool ((World.putObj_heap_other (by have := GY.out; omega)).trans HEND.out.2.1)), rfl, ?_⟩
        rw [HY.out]
        exact HEND.out.2.2.trans (below_put _ (by have := GY.out; omega) _)
    · obtain ⟨Ni, hNi⟩ : ∃ Ni : Int, most = Ni := ⟨_, rfl⟩
      have HMC := HMN
      rw [show manyO nu n most = Ni by rw [← hNi, ← HNU.out, ← HN.out]; exact many_more HM.out hmM hm1] at HMC
      have hnb2 : Box W (w3.heap.size + 1) 3 #[.int .i64 Ni] := by rw [← hNi]; exact hnb
      refine ⟨⟨vv, rfl⟩, hgk.df, .inr ⟨.exit 0, hlp, ?_⟩⟩
      have j1 := hgk.fr (fr_one (w3.heap.size + 3) (.loop { r with state := .exhausted, pending := some (.exit 0) })) (fun q hq => by omega)
      have j2 := hnb2.fr (fr_one (w3.heap.size + 3) (.loop { r with state := .exhausted, pending := some (.exit 0) })) (by omega)
      clear hgk hnb hnb2 hlp hmM hr1 hr2 hr3 hr4 hr5 hr6 hr7 hK0 hNB0 hL0 hNi hM hM3
      show Code.wpIn _ _ _ _ _ _ (W.putObj (w3.heap.size + 3) (.loop { r with state := .exhausted, pending := some (.exit 0) }))
      generalize W.putObj (w3.heap.size + 3) (.loop { r with state := .exhausted, pending := some (.exit 0) }) = VV at j1 j2 ⊢
      refine wpIn_wide.2 ?_
      have HGV := hid j1; have HNV := hid j2
      clear j1 j2
      have HB3 := hid (G3.out.below HGV.out.low)
      have HSS : Hid (VV.drew.cell? ⟨w3.heap.size + 1, 0, none⟩ = some (.int .i64 Ni) ∧ VV.drew.cell? ⟨Y, 0, none⟩ = some (.slice pu nu cu) ∧ VV.drew.cell? ⟨Y + 1, 0, none⟩ = some (.slice pv n cv) ∧ VV.drew.cell? ⟨Y + 1 + 1, 0, none⟩ = some (.int .i64 most)) := hid ⟨HNV.out.c 0, (G0.out.below HGV.out.low).c 0, (G1.out.below HGV.out.low).c 0, (G2.out.below HGV.out.low).c 0⟩
      have HSX : Hid ((VV.setCell ⟨Y + 1 + 1 + 1, 0, none⟩ (.bool true)).drew.cell? ⟨w3.heap.size + 1, 0, none⟩ = some (.int .i64 Ni) ∧ (VV.setCell ⟨Y + 1 + 1 + 1, 0, none⟩ (.bool true)).drew.cell? ⟨Y, 0, none⟩ = some (.slice pu nu cu) ∧ (VV.setCell ⟨Y + 1 + 1 + 1, 0, none⟩ (.bool true)).drew.cell? ⟨Y + 1, 0, none⟩ = some (.slice pv n cv) ∧ (VV.setCell ⟨Y + 1 + 1 + 1, 0, none⟩ (.bool true)).drew.cell? ⟨Y + 1 + 1, 0, none⟩ = some (.int .i64 most)) := hid ⟨(HNV.out.far (by have := GY.out; omega) 0 _).c 0, ((G0.out.below HGV.out.low).far (by omega) 0 _).c 0, ((G1.out.below HGV.out.low).far (by omega) 0 _).c 0, ((G2.out.below HGV.out.low).far (by omega) 0 _).c 0⟩
      have e3 : VV.drew.cell? ⟨Y + 1 + 1 + 1, 0, none⟩ = some (.bool false) := HB3.out.c 0
      have f3 : VV.drew.frozen? ⟨Y + 1 + 1 + 1, 0, none⟩ = false := HB3.out.f 0
      have hni : (Ni == Ni) = true := by simp
      have HEND : Hid ((VV.setCell ⟨Y + 1 + 1 + 1, 0, none⟩ (.bool true)).drew.heap[w3.heap.size + 2]? = some (.deferred (some [])) ∧ Box (VV.setCell ⟨Y + 1 + 1 + 1, 0, none⟩ (.bool true)).drew (Y + 3) 4 #[.bool true] ∧ Below Y w (VV.setCell ⟨Y + 1 + 1 + 1, 0, none⟩ (.bool true)).drew) := hid ⟨(set_far (by have := GY.out; omega) _).trans HGV.out.df, HB3.out.set 0 _, ((GB.out.trans (HGV.out.low.mono (by have := GY.out; omega))).trans ((fr_set VV (Y + 3) 0 _).below (fun q hq => by omega) (by have := GY.out; have := HGV.out.low.size; omega))).drew⟩
      go_wp2_with fail
      go_region_held3 (fun V => V.cell? ⟨w3.heap.size + 1, 0, none⟩ = some (.int .i64 Ni) ∧ V.cell? ⟨Y, 0, none⟩ = some (.slice pu nu cu) ∧ V.cell? ⟨Y + 1, 0, none⟩ = some (.slice pv n cv) ∧ V.cell? ⟨Y + 1 + 1, 0, none⟩ = some (.int .i64 most)) ((first | exact HSS.out | exact HSX.out | go_keep | fail)) ((first
        | (go_at_call 17; refine Calls.mono (HMC.out _) ?_; rintro e w9 ⟨rfl, rfl⟩)
        | fail))
      all_goals
        clear e3 f3
        generalize (VV.setCell ⟨Y + 1 + 1 + 1, 0, none⟩ (.bool true)).drew = V9 at HEND ⊢
        go_wp2_with fail
        refine ⟨by simp, .inl ⟨_, _, rfl, run_takeDeferred HEND.out.1, ?_⟩⟩
        refine ⟨_, results_c1 rfl rfl (load_bool ((World.putObj_heap_other (by have := GY.out; omega)).trans HEND.out.2.1)), rfl, ?_⟩
        rw [HY.out]
        exact HEND.out.2.2.trans (below_put _ (by have := GY.out; omega) _)
end Go.Proofs.Ytplekhfnidhcoaa
