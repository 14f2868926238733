import Derived.Test.YtfnfbljijkjkjaaGreatKSOp
/- The statements' right of equations, and how what StepGeneral is asked about is opened. -/
namespace Go.Proofs.YtfnfbljijkjkjaaGreat
open Go.ChangeShapes Go.WideShapes Go.ChangeAt Go.RowKit Go.Deep

def r2B (sg : List Sym) (p : Eq2) : Bool := rightB sg (p.1.x, p.1.l) && rightB sg (p.2.x, p.2.l)
def kd1 (x : Sym) : Bool := decide (x.kind = 1)
def rgtB (sg : List Sym) (P : List Eq2) : Bool := ((checkE sg == 0) && sg.all kd1) && P.all (r2B sg)
set_option maxRecDepth 100000 in
set_option maxHeartbeats 8000000 in
theorem rgt_any (S : Option Addr) (n cap : Nat) (sg : List Sym) (P : List Eq2) (q : Option Addr) (d : Nat) (u : Value) (w : World) (hG : SigAt w S n sg) (hP : ∀ p ∈ P, TmAt w p.1.x p.1.a p.1.c p.1.l ∧ TmAt w p.2.x p.2.a p.2.c p.2.l) (hq : EqsAt w q P) (hn : P.length ≤ 1048576) (hsn : n ≤ 1048576) :
    Calls Tryz.prog 12 #[.agg #[.slice S n cap, .slice q P.length d, u]] w fun e w' => e = .returned (.bool (rgtB sg P)) ∧ Below w.heap.size w w' := by
  have hb0 := alloc_below0 w (.cells #[.slice S n cap, .slice q P.length d, u] 50)
  have hX := Box.new w 50 #[.slice S n cap, .slice q P.length d, u]
  have HB0 := hid hb0; have HX := hid hX
  have H26 := hid fun (W : World) (hW : Below w.heap.size w W) => sright_any S n cap sg W (hG.below hW)
  unfold rgtB
  generalize (checkE sg == 0) = c0 at H26 ⊢
  have HG := hid hG; have HP := hid hP; have HQ := hid hq
  have HLEN := hid hG.len
  obtain ⟨nP, hnP⟩ : ∃ nP, P.length = nP := ⟨_, rfl⟩
  have HNP := hid hnP
  rw [hnP] at HB0 HX hn ⊢
  have z0 := HX.out.c 0
  clear hb0 hX hG hP hq hnP
  go_enter Tryz.func12, Tryz.ntmps12
  go_wp2_with (go_at_call 26; refine (H26.out _ HB0.out).mono ?_; rintro e w1 ⟨rfl, hb1⟩; have HB1 := hid (HB0.out.trans (hb1.mono HB0.out.size)); have HX1 := hid (HX.out.below hb1); clear hb1)
  clear z0
  go_loopw [3, 4] (fun ov iv wr => ∃ (j : Nat), j ≤ n ∧ ov = .bool (c0 && (sg.take j).all kd1) ∧ iv = .int .i64 j ∧ Below w.heap.size w wr ∧ Box wr w.heap.size 50 #[.slice S n cap, .slice q nP d, u]) (fun _ iv _ => n - (intOf iv).toNat)
  case atStart => exact ⟨0, Nat.zero_le _, by simp, rfl, HB1.out, HX1.out⟩
  case round =>
    obtain ⟨j, hj, rfl, rfl, hb, hx⟩ := hrel
    have HB := hid hb; have HXR := hid hx
    have x0 := hx.c 0
    by_cases hlt : j < n
    · have hjs : j < sg.length := by have := HLEN.out; omega
      obtain ⟨b, off, rfl, hy⟩ := (HG.out.below hb).cells j hjs
      have c1 := hy.kind
      have hst : (sg.take (j + 1)).all kd1 = ((sg.take j).all kd1 && kd1 sg[j]) := by rw [List.take_succ_eq_append_getElem hjs, List.all_append]; simp
      generalize hsj : sg[j] = sj at c1 hst
      have HST := hid hst
      generalize (sg.take j).all kd1 = av at HST ⊢
      have hj0 : (0 : Int) ≤ (j : Int) := by omega
      have hjn : (j : Int) < (n : Int) := by omega
      clear hb hx hy hst hsj hjs
      cases c0
      · go_wp2_with fail
        go_roundw
        case rel => exact ⟨j + 1, by omega, rfl, by go_num, HB.out, HXR.out⟩
        case measure => simp [intOf]; omega
      · cases av
        · go_wp2_with fail
          go_roundw
          case rel => exact ⟨j + 1, by omega, by rw [HST.out] <;> rfl, by go_num, HB.out, HXR.out⟩
          case measure => simp [intOf]; omega
        · go_wp2_with fail
          go_roundw
          case rel => exact ⟨j + 1, by omega, by rw [HST.out] <;> rfl, by go_num, HB.out, HXR.out⟩
          case measure => simp [intOf]; omega
    · have e1 : j = n := by omega
      subst e1
      have hall : sg.take j = sg := by rw [HLEN.out, List.take_length]
      rw [hall]
      generalize hce : (c0 && sg.all kd1) = c1
      have HCE := hid hce
      clear hb hx hall hce
      go_wp2_with fail
      clear x0
      go_loopw [3, 5] (fun ov iv wr => ∃ (i : Nat), i ≤ nP ∧ ov = .bool (c1 && (P.take i).all (r2B sg)) ∧ iv = .int .i64 i ∧ Below w.heap.size w wr ∧ Box wr w.heap.size 50 #[.slice S j cap, .slice q nP d, u]) (fun _ iv _ => nP - (intOf iv).toNat)
      case atStart => exact ⟨0, Nat.zero_le _, by simp, rfl, HB.out, HXR.out⟩
      case round =>
        obtain ⟨i, hi, rfl, rfl, hb, hx⟩ := hrel
        have HB2 := hid hb; have HX2 := hid hx
        have x0 : wr.cell? ⟨w.heap.size, 0, none⟩ = some (.slice S j cap) := hx.c 0
        have x1 : wr.cell? ⟨w.heap.size, 1, none⟩ = some (.slice q nP d) := hx.c 1
        by_cases hlt2 : i < nP
        · have hiP : i < P.length := by have := HNP.out; omega
          cases hov : (c1 && (P.take i).all (r2B sg))
          · have hfin : (c1 && P.all (r2B sg)) = false := by
              rw [Bool.and_eq_false_iff] at hov ⊢
              rcases hov with h | h
              · exact .inl h
              · right
                rw [List.all_eq_false] at h ⊢
                obtain ⟨p, hp, h2⟩ := h
                exact ⟨p, List.mem_of_mem_take hp, h2⟩
            have HFIN := hid hfin
            clear hb hx hov hfin
            go_wp2_with fail
            go_ret
            exact ⟨by rw [HCE.out, HFIN.out] <;> rfl, HB2.out⟩
          · obtain ⟨g, o, rfl, q0, q1, q2, q3, q4, q5⟩ := (HQ.out.keep (fun g o _ hgl => hb.block g hgl)) i hiP
            obtain ⟨tm1, tm2⟩ := HP.out _ (List.getElem_mem hiP)
            have hst : (P.take (i + 1)).all (r2B sg) = ((P.take i).all (r2B sg) && r2B sg P[i]) := by rw [List.take_succ_eq_append_getElem hiP, List.all_append]; simp
            rw [Bool.and_eq_true] at hov
            rw [hov.2, Bool.true_and] at hst
            have hc1 := hov.1
            generalize P[i] = p at q0 q1 q2 q3 q4 q5 tm1 tm2 hst
            have hr2 : r2B sg p = (rightB sg (p.1.x, p.1.l) && rightB sg (p.2.x, p.2.l)) := rfl
            rw [hr2] at hst
            have HST := hid hst; have HC1 := hid hc1
            clear hr2
            have HA := hid fun (W : World) (hW : Below wr.heap.size wr W) => rright_any S j cap sg (p.1.x, p.1.l) p.1.a p.1.c W ((HG.out.below hb).below hW) ((tm1.below hb).below hW)
            have HC := hid fun (W : World) (hW : Below wr.heap.size wr W) => rright_any S j cap sg (p.2.x, p.2.l) p.2.a p.2.c W ((HG.out.below hb).below hW) ((tm2.below hb).below hW)
            generalize rightB sg (p.1.x, p.1.l) = v1 at HA HST
            generalize rightB sg (p.2.x, p.2.l) = v2 at HC HST
            try dsimp only at HA HC
            have hls := later_some wr
            have k0 := later_cell q0; have k1 := later_cell q1; have k2 := later_cell q2
            have kx := later_cell x0; have ky := later_cell x1
            have hk0 : (0 : Int) ≤ (i : Int) := by omega
            have hkn : (i : Int) < (nP : Int) := by omega
            have HQ3 := hid (And.intro q3 (And.intro q4 q5)); have HX0 := hid x0; have HX1' := hid x1
            clear hb hx hov hc1 hst tm1 tm2 q0 q1 q2 q3 q4 q5
            go_upto_region 9 with fail
            refine wp_region_later (by kernel_rfl) (by kernel_rfl) ?_
            repeat (go_big_quiet_step (first | (go_at_call 18; (with_reducible refine calls_later (HA.out _ ?_)); exact Later.below _) | fail))
            refine wpQuiet_nil ?_
            intro _ hw'
            obtain ⟨x2, hw''⟩ := hw'
            subst hw''
            have bl2 := x2.below
            have HXS := hid (HX2.out.below bl2)
            have HBS := hid (HB2.out.trans (bl2.mono HB2.out.size))
            have HC2 := hid fun (W : World) (hW : Below x2.now.heap.size x2.now W) => HC.out W (bl2.trans (hW.mono bl2.size))
            have m3 := below_cell bl2 _ _ HQ3.out.1; have m4 := below_cell bl2 _ _ HQ3.out.2.1; have m5 := below_cell bl2 _ _ HQ3.out.2.2
            have n0 := below_cell bl2 _ _ HX0.out; have n1 := below_cell bl2 _ _ HX1'.out
            clear k0 k1 k2 kx ky hls bl2 x0 x1
            generalize x2.now = V2 at HXS HBS HC2 m3 m4 m5 n0 n1 ⊢
            clear x2
            have hls := later_some V2
            have k3 := later_cell m3; have k4 := later_cell m4; have k5 := later_cell m5
            have kx := later_cell n0; have ky := later_cell n1
            clear m3 m4 m5 n0 n1
            go_upto_region 10 with fail
            refine wp_region_later (by kernel_rfl) (by kernel_rfl) ?_
            repeat (go_big_quiet_step (first | (go_at_call 18; (with_reducible refine calls_later (HC2.out _ ?_)); exact Later.below _) | fail))
            refine wpQuiet_nil ?_
            intro _ hw'
            obtain ⟨x3, hw''⟩ := hw'
            subst hw''
            have HXT := hid (HXS.out.below x3.below)
            have HBT := hid (HBS.out.trans (x3.below.mono HBS.out.size))
            clear k3 k4 k5 kx ky hls
            generalize x3.now = V3 at HXT HBT ⊢
            cases v1
            · go_wp2_with fail
              go_roundw
              case rel => exact ⟨i + 1, by omega, by rw [HC1.out, HST.out] <;> rfl, by go_num, HBT.out, HXT.out⟩
              case measure => simp [intOf]; omega
            · go_wp2_with fail
              go_roundw
              case rel => exact ⟨i + 1, by omega, by rw [HC1.out, HST.out] <;> rfl, by go_num, HBT.out, HXT.out⟩
              case measure => simp [intOf]; omega
        · have e1 : i = nP := by omega
          subst e1
          have hall : P.take i = P := by rw [← HNP.out, List.take_length]
          rw [hall]
          clear hb hx hall
          go_wp2_with fail
          go_ret
          exact ⟨by rw [HCE.out] <;> rfl, HB2.out⟩

/-! ### opening -/
set_option maxRecDepth 100000 in
theorem Tryz.cells50 : Tryz.prog.cellsOf 50 = 3 := by kernel_rfl
set_option maxRecDepth 100000 in
theorem Tryz.cells39 : Tryz.prog.cellsOf 39 = 1 := by kernel_rfl
theorem eqs_of {H : Type} {W : World} {b : Nat} : ∀ (ds : List (DataW H × List MemPlace)) (o : Nat),
    (∀ (i : Nat) (h : i < ds.length), ∃ p : Eq2, (W.cell? ⟨b, o + i * 6, none⟩ = some (.string p.1.x.1) ∧ W.cell? ⟨b, o + i * 6 + 1, none⟩ = some (.int .i64 p.1.x.2) ∧ W.cell? ⟨b, o + i * 6 + 2, none⟩ = some (.slice p.1.a (lenF p.1.l) p.1.c) ∧ W.cell? ⟨b, o + i * 6 + 3, none⟩ = some (.string p.2.x.1) ∧ W.cell? ⟨b, o + i * 6 + 4, none⟩ = some (.int .i64 p.2.x.2) ∧ W.cell? ⟨b, o + i * 6 + 5, none⟩ = some (.slice p.2.a (lenF p.2.l) p.2.c)) ∧ (TmAt W p.1.x p.1.a p.1.c p.1.l ∧ TmAt W p.2.x p.2.a p.2.c p.2.l) ∧ nodesF p.1.l + nodesF p.2.l + 3 ≤ Rows.uptoBulk ds[i].1) →
    ∃ P : List Eq2, P.length = ds.length ∧ (∀ i (h : i < P.length), W.cell? ⟨b, o + i * 6, none⟩ = some (.string P[i].1.x.1) ∧ W.cell? ⟨b, o + i * 6 + 1, none⟩ = some (.int .i64 P[i].1.x.2) ∧ W.cell? ⟨b, o + i * 6 + 2, none⟩ = some (.slice P[i].1.a (lenF P[i].1.l) P[i].1.c) ∧ W.cell? ⟨b, o + i * 6 + 3, none⟩ = some (.string P[i].2.x.1) ∧ W.cell? ⟨b, o + i * 6 + 4, none⟩ = some (.int .i64 P[i].2.x.2) ∧ W.cell? ⟨b, o + i * 6 + 5, none⟩ = some (.slice P[i].2.a (lenF P[i].2.l) P[i].2.c)) ∧ sizeP P ≤ Rows.uptoBulkAll (ds.map (·.1)) ∧ ∀ p ∈ P, TmAt W p.1.x p.1.a p.1.c p.1.l ∧ TmAt W p.2.x p.2.a p.2.c p.2.l
  | [], o, _ => ⟨[], rfl, fun i h => absurd h (by simp), Nat.zero_le _, fun x hx => by cases hx⟩
  | d :: r, o, h => by
    obtain ⟨bl, hl, hk, hn, hs⟩ := eqs_of r (o + 6) (fun i hi => by
      obtain ⟨p, h1, h2⟩ := h (i + 1) (by simpa using hi)
      rw [show o + (i + 1) * 6 = o + 6 + i * 6 by omega] at h1
      exact ⟨p, h1, h2⟩)
    obtain ⟨p, h1, h2, h3⟩ := h 0 (by simp)
    simp only [Nat.zero_mul, Nat.add_zero, List.getElem_cons_zero] at h1 h3
    refine ⟨p :: bl, by simp [hl], fun i hi => ?_, ?_, fun y hy => ?_⟩
    · cases i with
      | zero => simpa using h1
      | succ i =>
        have h4 := hk i (by simpa using hi)
        rw [show o + (i + 1) * 6 = o + 6 + i * 6 by omega]
        simpa using h4
    · have e2 : sizeP (p :: bl) = (nodesF p.1.l + nodesF p.2.l + 3) + sizeP bl := by simp [sizeP]
      rw [e2]
      simp only [List.map_cons, Rows.uptoBulkAll]
      omega
    · rcases List.mem_cons.1 hy with rfl | hy
      · exact h2
      · exact hs y hy
set_option maxRecDepth 100000 in
theorem eqs_open {H : Type} {enc : TypeId × Value → H} {W : World} {fuel : Nat} {v : Value} {y : DataW H × List MemPlace} (hf : DataW.trod enc Tryz.prog W 0 (fun _ => true) true fuel 39 [v] = some y) (hz : Rows.uptoBulk y.1 ≤ 1048576) :
    ∃ q d P, v = .slice q P.length d ∧ EqsAt W q P ∧ (∀ p ∈ P, TmAt W p.1.x p.1.a p.1.c p.1.l ∧ TmAt W p.2.x p.2.a p.2.c p.2.l) ∧ sizeP P + 1 ≤ Rows.uptoBulk y.1 := by
  rcases DataW.trod_slice Tryz.underlying39 hf with ⟨hcs, h2⟩ | ⟨ad, len, c, elems, rest, n', hn', hcs, h2, _, hlc, hcm, hlen2, hel, _, _⟩
  · simp at hcs
    subst hcs
    exact ⟨none, 0, [], rfl, fun i h => absurd h (by simp), fun x hx => (by cases hx), bulk_pos _⟩
  · simp at hcs
    subst hcs
    rw [Tryz.cells28] at hel
    have hb2 : Rows.uptoBulkAll (elems.map (·.1)) + 1 ≤ Rows.uptoBulk y.1 := by
      simp only [h2, Rows.uptoBulk]; omega
    by_cases hz0 : len = 0
    · subst hz0
      exact ⟨some ad, c, [], rfl, fun i h => absurd h (by simp), fun x hx => (by cases hx), bulk_pos _⟩
    · have each : ∀ i (hi : i < elems.length), ∃ (A B : Tn) (a b : Option Addr) (c d : Nat), W.cells? 0 (ad.add (i * 6)) 6 = some (eqC A B a b c d) ∧ TmAt W A.1 a c A.2 ∧ TmAt W B.1 b d B.2 ∧ nodesF A.2 + nodesF B.2 + 3 ≤ Rows.uptoBulk elems[i].1 := by
        intro i hi
        have h1 := hel i (by omega)
        rw [List.getElem?_eq_getElem hi] at h1
        cases hc : W.cells? 0 (ad.add (i * 6)) 6 with
        | none => rw [hc] at h1; cases h1
        | some cs' =>
          rw [hc] at h1
          have := bulk_all (List.mem_map_of_mem (f := (·.1)) (List.getElem_mem hi))
          obtain ⟨A, B, a, b, c, d, rfl, h3⟩ := eq_trod h1 (by omega)
          exact ⟨A, B, a, b, c, d, rfl, h3⟩
      obtain ⟨b, off, spot⟩ := ad
      have hspot : spot = none := by
        obtain ⟨A, B, a, b', c', d, h3, _⟩ := each 0 (by omega)
        obtain ⟨_, _, h30⟩ := World.cells?_some h3
        have := h30 0 (by omega)
        unfold eqC at this
        simpa [Addr.add] using World.cell?_spot this
      subst hspot
      obtain ⟨P, h3, h4, h5, h6⟩ := eqs_of (W := W) (b := b) elems off (fun i hi => by
        obtain ⟨A, B, a, b', c', d, h3, hA, hB, hnn⟩ := each i hi
        rw [addr_add] at h3
        obtain ⟨_, _, h30⟩ := World.cells?_some h3
        have q0 := h30 0 (by omega)
        have q1 := h30 1 (by omega)
        have q2 := h30 2 (by omega)
        have q3 := h30 3 (by omega)
        have q4 := h30 4 (by omega)
        have q5 := h30 5 (by omega)
        rw [addr_add] at q0 q1 q2 q3 q4 q5
        exact ⟨(⟨A.1, A.2, a, c'⟩, ⟨B.1, B.2, b', d⟩), ⟨q0, q1, q2, q3, q4, q5⟩, ⟨hA, hB⟩, hnn⟩)
      have hPl : P.length = len := by omega
      subst hPl
      exact ⟨some ⟨b, off, none⟩, c, P, rfl, fun i hi => ⟨b, off, rfl, h4 i hi⟩, h6, by omega⟩
/-- What StepGeneral is asked about: a signature, equations, binds. -/
structure Fg where
  S : Option Addr
  n : Nat
  cap : Nat
  sg : List Sym
  q : Option Addr
  d : Nat
  P : List Eq2
  p : Option Addr
  pc : Nat
  bs : List Bn
def Fg.cells (x : Fg) : Array Value := #[.slice x.S x.n x.cap, .slice x.q x.P.length x.d, .slice x.p x.bs.length x.pc]
structure FgAt (w : World) (x : Fg) : Prop where
  sig : SigAt w x.S x.n x.sg
  eqs : EqsAt w x.q x.P
  tms : ∀ p ∈ x.P, TmAt w p.1.x p.1.a p.1.c p.1.l ∧ TmAt w p.2.x p.2.a p.2.c p.2.l
  bs : BindsAt w x.p x.bs.length x.bs
structure FgSz (x : Fg) : Prop where
  sg : x.n ≤ 1048576
  all : sizeP x.P + totB x.bs ≤ 1048576
set_option maxRecDepth 100000 in
theorem fg_open {H : Type} {enc : TypeId × Value → H} {W : World} {r : Reach} {b0 : Nat} {v : Value} {dd : DataW H} {ps : List MemPlace} (hv : Value.okWide Tryz.prog W r b0 50 v)
    (h : DataW.Trod enc Tryz.prog W 0 (fun _ => true) true 50 v dd ps) (hz : Rows.uptoBulk dd ≤ 1048576) : ∃ x : Fg, v = .agg x.cells ∧ FgAt W x ∧ FgSz x := by
  obtain ⟨cs, rfl, hsz⟩ := okWide_struct Tryz.underlying50 hv
  obtain ⟨fuel, hf⟩ := h
  obtain ⟨xs, n, hfuel, hx, hl, hlen, hff⟩ := DataW.trod_struct Tryz.underlying50 hf
  rw [Tryz.cells50] at hsz
  simp only [Value.cells] at hff hl
  obtain ⟨cl⟩ := cs
  match xs, hlen, cl, hsz with
  | [y0, y1, y2], _, [v0, v1, v2], _ =>
    have g0 := hff 0 _ rfl
    have g1 := hff 1 _ rfl
    have g2 := hff 2 _ rfl
    simp [Tryz.cells23, Tryz.cells39, Tryz.cells29] at g0 g1 g2
    have hd : Rows.uptoBulk y0.1 + Rows.uptoBulk y1.1 + Rows.uptoBulk y2.1 + 1 ≤ 1048576 := by
      have := congrArg Prod.fst hx
      simp only at this
      rw [this] at hz
      simp only [List.map_cons, List.map_nil, Rows.uptoBulk, Rows.uptoBulkAll] at hz
      omega
    obtain ⟨S, len, cap, l, rfl, hS, hn⟩ := sig_few g0 (by omega)
    obtain ⟨q, d, P, rfl, hE, hT, nP⟩ := eqs_open g1 (by omega)
    obtain ⟨p, pc, bs, rfl, hBs, nB⟩ := binds_open g2 (by omega)
    refine ⟨⟨S, len, cap, l, q, d, P, p, pc, bs⟩, rfl, ⟨hS, hE, hT, hBs⟩, ⟨hn, ?_⟩⟩
    show sizeP P + totB bs ≤ _
    omega
end Go.Proofs.YtfnfbljijkjkjaaGreat
