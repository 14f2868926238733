/- The document's deal. -/
import Derived.Test.YtdpdpjfnanjmgaaDoorSpAs
import Derived.Test.YtdpdpjfnanjmgaaDoorSpAe
import Derived.BigQuiet
import Derived.Deep.Cut
namespace Go.Proofs.YtdpdpjfnanjmgaaDoor
open Go.RowKit Go.Shelf

/-- What deal does for these takers. -/
def DealOk (e : Bool) (most : Nat) (ks : List Nat) : Prop := ∀ (la : Option Addr) (lc : Nat) (left : List Nat) (ka : Option Addr) (kc : Nat) (pp : Option Addr) (pc : Nat) (P : List (List Nat)) (po : Option Addr) (oc : Nat) (out : List (List (List Nat))) (base : Nat) (w : World),
  IntsAt w la (up left) → IntsAt w ka (up ks) → ks.length ≤ kc → WayZ w base (.slice pp P.length pc) P → WaysZ w base (.slice po out.length oc) out → base ≤ w.heap.size → P.length + ks.length ≤ 5 → (∀ r ∈ P, r.length ≤ 1000) → out.length < most → left.length ≤ 5 → (∀ x ∈ left, x ≤ 6) →
  (∀ g o, la = some ⟨g, o, none⟩ → (Value.slice po out.length oc).ownBlock ≠ some g) → (∀ g o, ka = some ⟨g, o, none⟩ → (Value.slice po out.length oc).ownBlock ≠ some g) →
  Calls Tryd.prog 24 #[.slice la left.length lc, .slice ka ks.length kc, .bool e, .slice pp P.length pc, .slice po out.length oc, .int .i64 (most : Int)] w (DealEnd w base (.slice po out.length oc) (out ++ ((WW e ks left).map (P ++ ·)).take (most - out.length)))
theorem made_row {w : World} {base q n : Nat} (h : w.ownsRow base 3 1 (.slice (some ⟨q, 0, none⟩) n n) n (madeCells (Value.int .i64 0).cells (n * 1)).toList) : CRow w base (some ⟨q, 0, none⟩) n (up (List.replicate n 0)) := by
  unfold CRow
  rw [up_len, List.length_replicate]
  have e : (madeCells (Value.int .i64 0).cells (n * 1)).toList = cAll (up (List.replicate n 0)) := by
    rw [Nat.mul_one]
    refine (toList_madeCells_one _ _).trans ?_
    unfold cAll up
    rw [List.map_replicate, List.map_replicate]
    rfl
  rw [e] at h
  exact h
/-- The numbers that a slice holds. -/
def readN (W : World) : Value → List Nat
  | .slice (some a) n _ => (List.range n).map fun j => match W.cell? ⟨a.block, a.off + j, none⟩ with
    | some (.int _ i) => i.toNat
    | _ => 0
  | _ => []
theorem readN_row {W : World} {base : Nat} {q : Option Addr} {d : Nat} {p : List Nat} (h : CRow W base q d (up p)) : readN W (.slice q p.length d) = p := by
  cases q with
  | none =>
    have hl : p.length = 0 := by
      rcases Nat.eq_zero_or_pos p.length with h0 | h0
      · exact h0
      · obtain ⟨_, _, h1, _⟩ := up_int h.ints h0
        cases h1
    rw [List.eq_nil_of_length_eq_zero hl]
    rfl
  | some a =>
    refine List.ext_getElem (by simp [readN]) fun i h1 h2 => ?_
    obtain ⟨b, o, e, hc⟩ := up_int h.ints h2
    cases e
    simp only [readN, List.getElem_map, List.getElem_range, hc]
    rw [List.getD_eq_getElem?_getD, List.getElem?_eq_getElem h2]
    rfl
theorem filt_rest {done rest : List (List Nat)} {p : List Nat} (h : (done ++ p :: rest).Pairwise (· < ·)) : (done ++ p :: rest).filter (fun q => decide (p < q)) = rest := by
  rw [List.pairwise_append] at h
  obtain ⟨_, h2, h3⟩ := h
  rw [List.pairwise_cons] at h2
  rw [List.filter_append, List.filter_cons, if_neg (by simp [lt_irr p]), List.filter_eq_nil_iff.2, List.filter_eq_self.2, List.nil_append]
  · intro q hq
    exact decide_eq_true (h2.1 q hq)
  · intro d hd
    have h4 := h3 d hd p (by simp)
    simp only [decide_eq_true_eq]
    exact fun h5 => lt_irr _ (List.lt_trans h4 h5)
/-- A number of a row is written over. -/
theorem crow_set {W : World} {base q d : Nat} {r : List Nat} (h : CRow W base (some ⟨q, 0, none⟩) d (up r)) {j : Nat} (v : Nat) : CRow (W.setCell ⟨q, j, none⟩ (.int .i64 (v : Int))) base (some ⟨q, 0, none⟩) d (up (r.set j v)) := by
  unfold CRow at h ⊢
  rw [up_len, List.length_set]
  rw [up_len] at h
  refine ⟨by rw [cAll_len, up_len, List.length_set, Nat.mul_one], ?_⟩
  rcases h.2 with ⟨h1, _⟩ | ⟨g, cap, cur, h1, h2, h3, h4, h5, h6, h7⟩
  · cases h1
  · cases h1
    refine .inr ⟨q, d, cur.setIfInBounds j (.int .i64 (v : Int)), rfl, h2, block_set h3 _, h4, h5, by rw [Array.size_setIfInBounds]; exact h6, ?_⟩
    rw [Array.toList_setIfInBounds]
    have e : cAll (up (r.set j v)) = (cAll (up r)).set j (.int .i64 (v : Int)) := by
      unfold cAll up
      rw [List.map_set, List.map_set]
    rw [e, ← h7, List.take_set]
theorem crow_cell {W : World} {base q d : Nat} {r : List Nat} (h : CRow W base (some ⟨q, 0, none⟩) d (up r)) {j : Nat} (hj : j < r.length) : W.cell? ⟨q, j, none⟩ = some (.int .i64 ((r.getD j 0 : Nat) : Int)) ∧ W.frozen? ⟨q, j, none⟩ = false ∧ base ≤ q ∧ q < W.heap.size := by
  obtain ⟨b, o, e, hc⟩ := up_int h.ints hj
  cases e
  rw [Nat.zero_add] at hc
  refine ⟨hc, ?_⟩
  rcases h.2 with ⟨h1, _⟩ | ⟨g, cap, cur, h1, h2, h3, _⟩
  · cases h1
  · cases h1
    exact ⟨by simp [World.frozen?, h3], h2, (Array.getElem?_eq_some_iff.1 h3).1⟩
/-- A row that is filled from the left. -/
theorem fill_set {s : List Nat} {L j : Nat} (hs : s.length = L) (hj : j < L) : (s.take j ++ List.replicate (L - j) 0).set j (s.getD j 0) = s.take (j + 1) ++ List.replicate (L - (j + 1)) 0 := by
  have hl : (s.take j).length = j := by rw [List.length_take]; omega
  rw [List.set_append_right _ _ (by omega), hl, Nat.sub_self, List.take_succ_eq_append_getElem (by omega : j < s.length)]
  obtain ⟨n, hn⟩ : ∃ n, L - j = n + 1 := ⟨L - j - 1, by omega⟩
  rw [hn, show L - (j + 1) = n by omega, List.replicate_succ, List.set_cons_zero, List.getD_eq_getElem?_getD, List.getElem?_eq_getElem (by omega : j < s.length), List.append_assoc]
  rfl
theorem clear_set {p : List Nat} {L t : Nat} (hp : p.length = L) (ht : t < L) (y : Nat) : (p.take (t + 1) ++ List.replicate (L - (t + 1)) 0).set t y = p.take t ++ y :: List.replicate (L - (t + 1)) 0 := by
  have hl : (p.take t).length = t := by rw [List.length_take]; omega
  rw [List.take_succ_eq_append_getElem (by omega : t < p.length), List.append_assoc, List.set_append_right _ _ (by omega), hl, Nat.sub_self]
  rfl
theorem zero_cons {L t : Nat} (ht : t < L) : 0 :: List.replicate (L - (t + 1)) 0 = List.replicate (L - t) 0 := by
  obtain ⟨n, hn⟩ : ∃ n, L - t = n + 1 := ⟨L - t - 1, by omega⟩
  rw [hn, show L - (t + 1) = n by omega]
  rfl
/-- What deal's walk over the parts keeps. -/
structure DlK (e : Bool) (most x : Nat) (ks left : List Nat) (P : List (List Nat)) (out : List (List (List Nat))) (base : Nat) (w : World) (ov : Value) (done : List (List Nat)) (p : List Nat) (rest : List (List Nat)) (co : Option Addr) (cc : Nat) (cur : List (List (List Nat))) (pq : Option Addr) (pd : Nat) (W : World) : Prop where
  box : boxes x left = done ++ p :: rest
  hand : cur = out ++ ((done.flatMap (behP e x ks left)).map (P ++ ·)).take (most - out.length)
  ways : WaysZ W base (.slice co cur.length cc) cur
  part : CRow W w.heap.size pq pd (up p)
  fr : Fr (fun q => ov.ownBlock = some q) w W
  own : ∀ q, (Value.slice co cur.length cc).ownBlock = some q → ov.ownBlock = some q ∨ w.heap.size ≤ q
set_option maxRecDepth 100000 in
set_option maxHeartbeats 16000000 in
theorem deal_cons {e : Bool} {most x : Nat} {ks : List Nat} (hx : 1 ≤ x ∧ x ≤ 6) (hks : ∀ y ∈ ks, 1 ≤ y ∧ y ≤ 6) (ih : DealOk e most ks) : DealOk e most (x :: ks) := by
  intro la lc left ka kc pp pc P po oc out base w hL hK hcap hP hO hb hPl hPr hom hl5 hl6 hla hka
  obtain ⟨kk, hkk⟩ : ∃ kk, x :: ks = kk := ⟨_, rfl⟩
  have hkk1 : ∀ y ∈ kk, 1 ≤ y := by
    rw [← hkk]
    intro y hy
    rcases List.mem_cons.1 hy with rfl | hy
    · exact hx.1
    · exact (hks y hy).1
  have hkl : kk.length = ks.length + 1 := by rw [← hkk]; rfl
  rw [hkk] at hK hcap hPl ⊢
  obtain ⟨res, hres⟩ : ∃ res, out ++ ((WW e kk left).map (P ++ ·)).take (most - out.length) = res := ⟨_, rfl⟩
  rw [hres]
  have HRES := hid hres
  clear hres
  have hk0 : ((kk.length : Int) == 0) = false := beq_false_of_ne (by omega)
  have hmay := may_any la ka lc kc (up left) (up kk) e w hL hK
  rw [up_len, up_len] at hmay
  have HMAY := hid hmay
  have HL := hid hL; have HK := hid hK; have HP := hid hP; have HO := hid hO; have HLA := hid hla; have HKA := hid hka; have HKK := hid hkk; have HK1 := hid hkk1; have HIH := hid ih; have HPR := hid hPr; have HX := hid hx; have HL6 := hid hl6; have HKL := hid hkl; have HCAP := hid hcap
  clear hL hK hP hO hla hka hkk hkk1 ih hPr hx hmay hl6 hkl hcap
  by_cases hm : (e || mayB (up left) (up kk)) = true
  · rw [hm] at HMAY
    clear hm
    go_enter Tryd.func24, Tryd.ntmps24
    go_wp2_with fail
    refine HMAY.out.mono ?_
    rintro en w1 ⟨rfl, hb1⟩
    have HB1 := hid hb1
    clear hb1 HMAY
    go_wp2_with fail
    go_loopw [16, 17] (fun _ jv wr => ∃ j : Nat, j ≤ left.length ∧ jv = .int .i64 (j : Int) ∧ wr = w1) (fun _ jv _ => left.length - (intOf jv).toNat)
    case atStart => exact ⟨0, Nat.zero_le _, rfl, rfl⟩
    case round =>
      obtain ⟨j, hj, rfl, rfl⟩ := hrel
      by_cases hlt : j < left.length
      · obtain ⟨lb, lo, rfl, hlc⟩ := up_int (HL.out.below HB1.out) hlt
        obtain ⟨n, hn⟩ : ∃ n, left.getD j 0 = n := ⟨_, rfl⟩
        have hn6 : n ≤ 6 := by
          rw [← hn, List.getD_eq_getElem?_getD, List.getElem?_eq_getElem hlt]; exact HL6.out _ (List.getElem_mem _)
        rw [hn] at hlc
        have HAD := hid (adds_any ka kc kk wr (HK.out.below HB1.out) HK1.out 6 n hn6 (by omega))
        have HN := hid hn
        clear hn
        go_wp2_with fail
        refine HAD.out.mono ?_
        rintro en w2 ⟨r, ⟨rfl, rfl⟩, hr⟩
        cases r with
        | true =>
          clear hr
          go_wp2_with fail
          go_roundw
          case rel => exact ⟨j + 1, by omega, by go_num, trivial⟩
          case measure => simp [intOf]; omega
        | false =>
          have hw : WW e kk left = [] := WW_adds HK1.out hlt (by rw [HN.out]; exact fun h => by cases hr.2 h)
          have hro : res = out := by rw [← HRES.out, hw, List.map_nil, List.take_nil, List.append_nil]
          clear hr hw
          go_wp2_with fail
          go_ret
          rw [hro]
          exact DealEnd.same HO.out HB1.out
      · have e1 : j = left.length := by omega
        subst e1
        obtain ⟨i3, hi3, hy0, hy1, hy2⟩ := info_parts Tryd.info3
        have hll := hl5
        go_wp2_with (first | (at_make; refine wpList_make_full _ rfl _ _ 23 rfl wr.heap.size 3 i3 (.int .i64 0) 1 Tryd.underlying23 hi3 hy0 hy1 .i64 .i64 _ _ left.length rfl rfl rfl rfl (by rw [hy2]; omega) (by unfold maxLen; omega) (Nat.le_refl _) ?_; intro w2 hown hgr; have HOWN := hid (made_row hown); have HGR := hid hgr; clear hown hgr) | fail)
        obtain ⟨tl, htl⟩ := boxes_ne (k := x) left
        have HDL : Hid (DlK e most x ks left P out base w (.slice po out.length oc) [] (zer left) tl po oc out (some ⟨wr.heap.size, 0, none⟩) left.length w2) := hid
          ⟨htl, by simp, (HO.out.below HB1.out).below ((fr_grown HGR.out).below (n := wr.heap.size) (fun q hq => by cases hq) (Nat.le_refl _)), HOWN.out.mono HB1.out.size, (Fr.of_below HB1.out).trans ((fr_grown HGR.out).mono fun q hq => by cases hq), fun q hq => .inl hq⟩
        clear htl HOWN HGR hi3 hy0 hy1 hy2
        go_loopw [4, 18, 19, 20, 21, 22, 23] (fun s4 s18 _ _ _ _ _ wq => ∃ done p rest co cc cur pq pd, s4 = .slice co cur.length cc ∧ s18 = .slice pq p.length pd ∧ DlK e most x ks left P out base w (.slice po out.length oc) done p rest co cc cur pq pd wq) (fun _ s18 _ _ _ _ _ wq => ((boxes x left).filter fun q => decide (readN wq s18 < q)).length)
        case atStart => exact ⟨[], zer left, tl, po, oc, out, _, _, rfl, by simp [zer], HDL.out⟩
        case round =>
          obtain ⟨done, p, rest, co, cc, cur, pq, pd, rfl, rfl, hd⟩ := hrel
          obtain ⟨V, rfl⟩ : ∃ V, V = wr := ⟨_, rfl⟩
          have hpm : p ∈ boxes x left := by rw [hd.box]; simp
          have hpl : p.length = left.length := ((boxes_mem HX.out.1 left p).1 hpm).1
          have hple := ((boxes_mem HX.out.1 left p).1 hpm).2
          have hww : WW e kk left = (done ++ p :: rest).flatMap (behP e x ks left) := by rw [← HKK.out, WW_cons, hd.box]
          obtain ⟨D, hD⟩ : ∃ D, (done.flatMap (behP e x ks left)).map (P ++ ·) = D := ⟨_, rfl⟩
          have hcur : cur = out ++ D.take (most - out.length) := by rw [← hD]; exact hd.hand
          have hres2 : res = out ++ (D ++ ((p :: rest).flatMap (behP e x ks left)).map (P ++ ·)).take (most - out.length) := by
            rw [← HRES.out, hww, List.flatMap_append, List.map_append, hD]
          rw [hpl]
          by_cases hfull : cur.length < most
          · have hcD : cur = out ++ D := by
              rw [hcur] at hfull ⊢
              rw [List.length_append, List.length_take] at hfull
              rw [List.take_of_length_le (by omega)]
            have hD0 := hd
            have HDD := hid hd; have HPL := hid hpl; have HPLE := hid hple; have HCD := hid hcD; have HR2 := hid hres2; have HDE := hid hD; have HFULL := hid hfull
            have hfz : (cur.length : Int) < (most : Int) := by omega
            clear hpm hpl hple hww hcur hres2 hD hcD hD0 hd
            obtain ⟨i3, hi3, hy0, hy1, hy2⟩ := info_parts Tryd.info3
            go_wp2_with (first | (at_make; refine wpList_make_full _ rfl _ _ 23 rfl V.heap.size 3 i3 (.int .i64 0) 1 Tryd.underlying23 hi3 hy0 hy1 .i64 .i64 _ _ left.length rfl rfl rfl rfl (by rw [hy2]; omega) (by unfold maxLen; omega) (Nat.le_refl _) ?_; intro w3 hown hgr; have HOWN := hid (made_row hown); have HGR := hid hgr; clear hown hgr) | fail)
            have hLr : IntsAt V la (up left) := HL.out.fr HDD.out.fr fun g o e h => HLA.out g o e h
            have hKr : IntsAt V ka (up kk) := HK.out.fr HDD.out.fr fun g o e h => HKA.out g o e h
            have hb3 : Below V.heap.size V w3 := (fr_grown HGR.out).below (n := V.heap.size) (fun q hq => by cases hq) (Nat.le_refl _)
            have HLR := hid hLr; have HKR := hid hKr; have HB3 := hid hb3
            clear hLr hKr hb3 hi3 hy0 hy1 hy2 HGR
            go_loopw [20] (fun jv wq => ∃ j : Nat, j ≤ left.length ∧ jv = .int .i64 (j : Int) ∧ CRow wq V.heap.size (some ⟨V.heap.size, 0, none⟩) left.length (up ((subP x left p).take j ++ List.replicate (left.length - j) 0)) ∧ Below V.heap.size V wq) (fun jv _ => left.length - (intOf jv).toNat)
            case atStart => exact ⟨0, Nat.zero_le _, rfl, by rw [List.take_zero, List.nil_append, Nat.sub_zero]; exact HOWN.out, HB3.out⟩
            case round =>
              obtain ⟨j, hj, rfl, hrow, hbr⟩ := hrel
              by_cases hlj : j < left.length
              · have hr1 := HLR.out.below hbr
                obtain ⟨lb, lo, rfl, hlc⟩ := up_int hr1 hlj
                obtain ⟨kb, ko, rfl, hkc⟩ := up_int (HKR.out.below hbr) (i := 0) (by have := HKL.out; omega)
                obtain ⟨pb, pf, rfl, hpc⟩ := up_int (HDD.out.part.ints.below hbr) (i := j) (by rw [HPL.out]; exact hlj)
                have hsl : (subP x left p).length = left.length := sub_len HPL.out
                have hfl : j < ((subP x left p).take j ++ List.replicate (left.length - j) 0).length := by rw [List.length_append, List.length_take, List.length_replicate]; omega
                obtain ⟨hrc, hrf, hq1, hq2⟩ := crow_cell hrow hfl
                have hk0' : kk.getD 0 0 = x := by rw [← HKK.out]; rfl
                rw [hk0', Nat.add_zero] at hkc
                obtain ⟨l, hl⟩ : ∃ l, left.getD j 0 = l := ⟨_, rfl⟩
                obtain ⟨y, hy⟩ : ∃ y, p.getD j 0 = y := ⟨_, rfl⟩
                have hle := HPLE.out j hlj
                have hsa := sub_at (k0 := x) HPL.out hlj
                rw [hl, hy] at hle hsa
                rw [hl] at hlc
                rw [hy] at hpc
                have hl6' : l ≤ 6 := by rw [← hl, List.getD_eq_getElem?_getD, List.getElem?_eq_getElem hlj]; exact HL6.out _ (List.getElem_mem _)
                obtain ⟨z, hz⟩ : ∃ z, x * y = z := ⟨_, rfl⟩
                have hmul : (x : Int) * (y : Int) = (z : Int) := by rw [← hz]; simp
                rw [hz] at hle hsa
                obtain ⟨u, hu⟩ : ∃ u, l - z = u := ⟨_, rfl⟩
                rw [hu] at hsa
                have w1' : IntKind.i64.wrap (z : Int) = (z : Int) := IntWalk.i64_in _ (by constructor <;> omega)
                have w2' : IntKind.i64.wrap ((l : Int) - (z : Int)) = (u : Int) := (IntWalk.i64_in _ (by constructor <;> omega)).trans (by omega)
                have hset := crow_set (j := j) hrow ((subP x left p).getD j 0)
                rw [fill_set hsl hlj, hsa] at hset
                have hkz : (0 : Int) < (kk.length : Int) := by have := HKL.out; omega
                have hkn : 0 < kk.length := by omega
                have HSET := hid hset; have HBR := hid hbr
                clear hset hbr hr1 hsl hfl hk0' hl hy hle hsa hl6' hz hu hrow
                go_wp2_with fail
                refine wp_region_still_tail 15 (by kernel_rfl) (by kernel_rfl) ?_
                simp only [List.take_succ_cons, List.take_zero, List.drop_succ_cons, List.drop_zero]
                iterate 15 still_step
                refine wpStill_nil ?_
                go_wp2_with fail
                go_roundw
                case rel => exact ⟨j + 1, by omega, by go_num, HSET.out, ((HBR.out.drew).setCell (p := ⟨V.heap.size, j, none⟩) (Nat.le_refl _) _)⟩
                case measure => simp [intOf]; omega
              · have e1 : j = left.length := by omega
                subst e1
                have hsl : (subP x left p).length = left.length := sub_len HPL.out
                rw [← hsl, List.take_length, Nat.sub_self, List.replicate_zero, List.append_nil] at hrow
                obtain ⟨U, rfl⟩ : ∃ U, U = wr := ⟨_, rfl⟩
                have hno := noneI_any pq pd (up p) U (HDD.out.part.ints.below hbr)
                rw [any_zero, up_len, HPL.out] at hno
                obtain ⟨z0, hz0⟩ : ∃ z0, p.all (· == 0) = z0 := ⟨_, rfl⟩
                rw [hz0] at hno
                have HNO := hid hno; have HROW := hid hrow; have HBR := hid hbr; have HZ0 := hid hz0; have HSL := hid hsl
                clear hno hrow hbr hz0 hsl
                go_wp2_with fail
                refine HNO.out.mono ?_
                rintro en w5 ⟨rfl, hw5⟩
                obtain rfl : U = w5 := hw5.symm
                clear HNO
                go_upto_region 28 with (fail)
                go_cut [111] from 107 to 110 (fun cv wc => cv = .bool (e || !z0) ∧ wc = U)
                case first =>
                  cases e
                  · go_wp2_with fail
                    go_meet
                    all_goals exact ⟨rfl, rfl⟩
                  · go_wp2_with fail
                    go_meet
                    all_goals exact ⟨rfl, rfl⟩
                case rest =>
                obtain ⟨hcv, hcw⟩ := hcut
                subst hcv
                rw [hcw]
                clear hcw
                obtain ⟨g0, hg0⟩ : ∃ g0, (e || !z0) = g0 := ⟨_, rfl⟩
                rw [hg0]
                have HG0 := hid hg0
                clear hg0
                go_upto_if 111 with (fail)
                go_cut [4] from 112 to 124 (fun s4 wc => ∃ co' cc' cur', s4 = .slice co' (List.length cur') cc' ∧ cur' = out ++ (((done ++ [p]).flatMap (behP e x ks left)).map (P ++ ·)).take (most - out.length) ∧ WaysZ wc base (.slice co' cur'.length cc') cur' ∧ CRow wc w.heap.size pq pd (up p) ∧ Fr (fun q => (Value.slice po out.length oc).ownBlock = some q) w wc ∧ (∀ q, (Value.slice co' cur'.length cc').ownBlock = some q → (Value.slice po out.length oc).ownBlock = some q ∨ w.heap.size ≤ q))
                case first =>
                  have hwv : WaysZ U base (.slice co cur.length cc) cur := HDD.out.ways.below HBR.out
                  have hpu : CRow U w.heap.size pq pd (up p) := HDD.out.part.below HBR.out
                  have hfu : Fr (fun q => (Value.slice po out.length oc).ownBlock = some q) w U := HDD.out.fr.trans (Fr.of_below HBR.out)
                  cases g0 with
                  | true =>
                    have hgo := HG0.out
                    have hPw : WayZ U base (.slice pp P.length pc) P := by
                      obtain ⟨xs, h1, _⟩ := HO.out
                      exact HP.out.typ (Typ.of_fr hfu fun b hb => (own_blk h1 hb).2.2)
                    obtain ⟨kb, ko, rfl, hkc⟩ := up_int HK.out (i := 0) (by have := HKL.out; omega)
                    obtain ⟨A, hA⟩ : ∃ A, (if kc = 1 then (some ⟨kb, ko, none⟩ : Option Addr) else some ⟨kb, ko + 1, none⟩) = A := ⟨_, rfl⟩
                    have hkbw : kb < w.heap.size := World.block_lt_of_cell? w _ hkc
                    have hAk : ∀ g o, A = some ⟨g, o, none⟩ → g = kb := fun g o h => by
                      rw [← hA] at h
                      split at h
                      · cases h; rfl
                      · cases h; rfl
                    have hIk : IntsAt U A (up ks) := by
                      have h1 : IntsAt U (some ⟨kb, ko, none⟩) (up kk) := HKR.out.below HBR.out
                      have h2 := ints_drop h1 1
                      rw [show kk.drop 1 = ks by rw [← HKK.out]; rfl] at h2
                      rw [← hA]
                      split
                      · have hl0 : ks.length = 0 := by have := HKL.out; have := HCAP.out; omega
                        rw [List.eq_nil_of_length_eq_zero hl0]
                        exact ⟨Nat.zero_le _, fun i hi => absurd hi (Nat.not_lt_zero i)⟩
                      · exact h2
                    obtain ⟨NEW, hNEW⟩ : ∃ NEW, cur ++ ((WW e ks (subP x left p)).map ((P ++ [p]) ++ ·)).take (most - cur.length) = NEW := ⟨_, rfl⟩
                    have hks1 : kk.length - 1 = ks.length := by have := HKL.out; omega
                    have hsl6 : ∀ y ∈ subP x left p, y ≤ 6 := fun y hy => by
                      obtain ⟨i, hi, rfl⟩ := List.getElem_of_mem hy
                      have hi2 : i < left.length := by rw [← HSL.out]; exact hi
                      have h3 := sub_at (k0 := x) HPL.out hi2
                      rw [List.getD_eq_getElem?_getD, List.getElem?_eq_getElem hi] at h3
                      have h4 : left.getD i 0 ≤ 6 := by rw [List.getD_eq_getElem?_getD, List.getElem?_eq_getElem hi2]; exact HL6.out _ (List.getElem_mem _)
                      have h5 : (subP x left p)[i] = left.getD i 0 - x * p.getD i 0 := h3
                      omega
                    have hVw : w.heap.size ≤ V.heap.size := HDD.out.fr.low.size
                    have HCALL : Hid (∀ p2 c2 wX, Below U.heap.size U wX → WayZ wX base (.slice p2 (P.length + 1) c2) (P ++ [p]) → Calls Tryd.prog 24 #[.slice (some ⟨V.heap.size, 0, none⟩) left.length left.length, .slice A (kk.length - 1) (kc - 1), .bool e, .slice p2 (P.length + 1) c2, .slice co cur.length cc, .int .i64 (most : Int)] wX (DealEnd wX base (.slice co cur.length cc) NEW)) := hid fun p2 c2 wX hbX hwX => by
                      have h := HIH.out (some ⟨V.heap.size, 0, none⟩) left.length (subP x left p) A (kc - 1) p2 c2 (P ++ [p]) co cc cur base wX (HROW.out.ints.below hbX) (hIk.below hbX) (by have := HKL.out; have := HCAP.out; omega) (by rw [List.length_append, List.length_singleton]; exact hwX) (hwv.below hbX) (Nat.le_trans (Nat.le_trans hb (Nat.le_trans hVw HBR.out.size)) hbX.size) (by rw [List.length_append, List.length_singleton]; have := HKL.out; omega) (fun r hr => by
                        rcases List.mem_append.1 hr with h | h
                        · exact HPR.out r h
                        · rw [List.mem_singleton] at h
                          rw [h, HPL.out]; omega) HFULL.out (by rw [HSL.out]; exact hl5) hsl6 (fun g o hg he => by
                        cases hg
                        obtain ⟨xs, h1, _⟩ := hwv
                        obtain ⟨_, _, cs, h9⟩ := own_blk h1 he
                        rcases HROW.out.2 with ⟨h3, _⟩ | ⟨g3, cap3, cur3, h3, h4, h5, _⟩
                        · cases h3
                        · cases h3
                          rw [h5] at h9
                          cases h9) (fun g o hg he => by
                        have := hAk g o hg
                        subst this
                        rcases HDD.out.own g he with h | h
                        · exact HKA.out g ko rfl h
                        · omega)
                      rw [HSL.out, List.length_append, List.length_singleton, hNEW, ← hks1] at h
                      exact h
                    have hbeh : (behP e x ks left p).map (P ++ ·) = (WW e ks (subP x left p)).map ((P ++ [p]) ++ ·) := by
                      unfold behP
                      rw [HZ0.out, if_pos hgo, List.map_map]
                      refine List.map_congr_left fun R _ => ?_
                      simp
                    have hnew2 : NEW = out ++ (((done ++ [p]).flatMap (behP e x ks left)).map (P ++ ·)).take (most - out.length) := by
                      have h1 := HFULL.out
                      rw [HCD.out] at h1
                      rw [← hNEW, List.flatMap_append, List.map_append, HDE.out, hand_more out D _ most h1, HCD.out]
                      simp only [List.flatMap_cons, List.flatMap_nil, List.append_nil]
                      rw [hbeh]
                    have HEND : Hid (∀ wX po' oc' wE, Below U.heap.size U wX → WaysZ wE base (.slice po' NEW.length oc') NEW → Fr (fun q => (Value.slice co cur.length cc).ownBlock = some q) wX wE → (∀ q, (Value.slice po' NEW.length oc').ownBlock = some q → (Value.slice co cur.length cc).ownBlock = some q ∨ wX.heap.size ≤ q) → ∃ co' cc' cur', Value.slice po' NEW.length oc' = .slice co' (List.length cur') cc' ∧ cur' = out ++ (((done ++ [p]).flatMap (behP e x ks left)).map (P ++ ·)).take (most - out.length) ∧ WaysZ wE base (.slice co' cur'.length cc') cur' ∧ CRow wE w.heap.size pq pd (up p) ∧ Fr (fun q => (Value.slice po out.length oc).ownBlock = some q) w wE ∧ (∀ q, (Value.slice co' cur'.length cc').ownBlock = some q → (Value.slice po out.length oc).ownBlock = some q ∨ w.heap.size ≤ q)) := hid fun wX po' oc' wE hbX h1 h2 h3 => by
                      have hfx := hfu.trans (Fr.of_below hbX)
                      have hwU : w.heap.size ≤ wX.heap.size := hfx.low.size
                      refine ⟨po', oc', NEW, rfl, hnew2, h1, ?_, ⟨hfx.low.trans h2.low, fun q hq hA => (h2.same q (by omega) fun hc => ?_).trans (hfx.same q hq hA)⟩, fun q hq => ?_⟩
                      · obtain ⟨xs, k1, _⟩ := hwv
                        exact (hpu.below hbX).typ (Typ.of_fr h2 fun b hb => (own_blk (own_below k1 hbX) hb).2.2)
                      · rcases HDD.out.own q hc with h | h
                        · exact hA h
                        · omega
                      · rcases h3 q hq with h | h
                        · exact HDD.out.own q h
                        · exact .inr (by omega)
                    have bA := hid (show Below U.heap.size U (U.alloc (.cells #[] 23)).drew from (alloc_below0 U _).drew)
                    have eA := hid (show (U.alloc (.cells #[] 23)).drew.heap[U.heap.size]? = some (.cells #[] 23 (0, 0)) from World.alloc_heap_new U _)
                    have bB := hid (show Below U.heap.size U ((U.alloc (.cells #[] 23)).alloc (.cells #[.slice pq left.length pd] 23)).drew from ((alloc_below0 U _).alloc (by simp) _).drew)
                    have eB := hid (show ((U.alloc (.cells #[] 23)).alloc (.cells #[.slice pq left.length pd] 23)).drew.heap[U.heap.size]? = some (.cells #[] 23 (0, 0)) from ((alloc_below0 (U.alloc (.cells #[] 23)) _).block _ (by simp)).trans (World.alloc_heap_new U _))
                    have sB := hid (show ((U.alloc (.cells #[] 23)).alloc (.cells #[.slice pq left.length pd] 23)).drew.heap[U.heap.size + 1]? = some (.cells #[.slice pq p.length pd] 23 (0, 0)) by
                      have h := World.alloc_heap_new (U.alloc (.cells #[] 23)) (.cells #[.slice pq left.length pd] 23)
                      rw [World.size_alloc] at h
                      rw [HPL.out]
                      exact h)
                    have bC := hid (show Below U.heap.size U ((U.alloc (.cells #[.slice pq left.length pd] 23)).alloc (.cells #[] 23)).drew from ((alloc_below0 U _).alloc (by simp) _).drew)
                    have eC := hid (show ((U.alloc (.cells #[.slice pq left.length pd] 23)).alloc (.cells #[] 23)).drew.heap[U.heap.size + 1]? = some (.cells #[] 23 (0, 0)) by
                      have h := World.alloc_heap_new (U.alloc (.cells #[.slice pq left.length pd] 23)) (.cells #[] 23)
                      rw [World.size_alloc] at h
                      exact h)
                    have sC := hid (show ((U.alloc (.cells #[.slice pq left.length pd] 23)).alloc (.cells #[] 23)).drew.heap[U.heap.size]? = some (.cells #[.slice pq p.length pd] 23 (0, 0)) by
                      rw [HPL.out]
                      exact ((alloc_below0 (U.alloc (.cells #[.slice pq left.length pd] 23)) _).block _ (by simp)).trans (World.alloc_heap_new U _))
                    have hP5 : P.length ≤ 5 := by omega
                    have hbU : base ≤ U.heap.size := Nat.le_trans hb (Nat.le_trans hVw HBR.out.size)
                    obtain ⟨pA1, cA1, wA1, hrA1, hiA1, hbA1, -⟩ := parts_app1 hPw hP5 bA.out (Nat.le_refl _) eA.out
                    obtain ⟨pA2, cA2, wA2, hrA2, hwA2, hbA2⟩ := parts_app2 (hiA1.below (alloc_below0 wA1 (.cells #[.slice pq left.length pd] 23))) hP5 (hbA1.trans ((alloc_below0 wA1 _).mono hbA1.size)) (sB := wA1.heap.size) (r := p) (q := pq) (d := pd) (by rw [HPL.out]; exact World.alloc_heap_new wA1 _) hpu hb hbU
                    obtain ⟨pB1, cB1, wB1, hrB1, hiB1, hbB1, hkB1⟩ := parts_app1 hPw hP5 bB.out (Nat.le_refl _) eB.out
                    obtain ⟨pB2, cB2, wB2, hrB2, hwB2, hbB2⟩ := parts_app2 hiB1 hP5 hbB1 (sB := U.heap.size + 1) (r := p) (q := pq) (d := pd) ((hkB1 _ (Array.getElem?_eq_some_iff.1 sB.out).1 (by omega)).trans sB.out) hpu hb hbU
                    obtain ⟨pC1, cC1, wC1, hrC1, hiC1, hbC1, hkC1⟩ := parts_app1 hPw hP5 bC.out (Nat.le_succ _) eC.out
                    obtain ⟨pC2, cC2, wC2, hrC2, hwC2, hbC2⟩ := parts_app2 hiC1 hP5 hbC1 (sB := U.heap.size) (r := p) (q := pq) (d := pd) ((hkC1 _ (Array.getElem?_eq_some_iff.1 sC.out).1 (by omega)).trans sC.out) hpu hb hbU
                    have mixed : Tryd.prog.follows .mixedOrders = true := by kernel_rfl
                    have hk1l : 1 ≤ kk.length := by have := HKL.out; omega
                    have hk1z : (1 : Int) ≤ (kk.length : Int) := by omega
                    have hkcz : (kk.length : Int) ≤ (kc : Int) := by have := HCAP.out; omega
                    have hkcn : kk.length ≤ kc := HCAP.out
                    have hNX := hid hnew2
                    clear hnew2 hbeh hNEW hsl6 hIk hAk hkbw hkc hPw hwv hpu hfu hks1 hVw hP5 hbU hgo
                    go_wp2_with fail
                    refine wp_calm ?_
                    refine wp_region_held_drew (S := fun _ => True) mixed trivial ?_
                    intro hS
                    refine wpAnyH_take (i := 0) (v := (.slice (some ⟨V.heap.size, 0, none⟩) left.length left.length)) rfl (by kernel_rfl) (by kernel_rfl) (by kernel_rfl) (fun _ _ _ h => (show False from h).elim) (Or.inl ⟨by rfl, fun w' hw' => ?_⟩) hS ?_
                    · go_simp
                    simp only [Act.put, List.getElem_toArray, List.getElem_cons_zero, List.setIfInBounds_toArray, List.set_cons_zero, List.set_cons_succ]
                    refine wpAnyH_take (i := 1) (v := (.slice (some ⟨kb, ko, none⟩) kk.length kc)) rfl (by kernel_rfl) (by kernel_rfl) (by kernel_rfl) (fun _ _ _ h => (show False from h).elim) (Or.inl ⟨by rfl, fun w' hw' => ?_⟩) hS ?_
                    · go_simp
                    simp only [Act.put, List.getElem_toArray, List.getElem_cons_zero, List.getElem_cons_succ, List.setIfInBounds_toArray, List.set_cons_zero, List.set_cons_succ]
                    refine wpAnyH_take (i := 2) (v := (.slice A (kk.length - 1) (kc - 1))) rfl (by kernel_rfl) (by kernel_rfl) (by kernel_rfl) (fun _ _ _ h => (show False from h).elim) (Or.inl ⟨by rfl, fun w' hw' => ?_⟩) hS ?_
                    · go_simp
                    simp only [Act.put, List.getElem_toArray, List.getElem_cons_zero, List.getElem_cons_succ, List.setIfInBounds_toArray, List.set_cons_zero, List.set_cons_succ]
                    refine wpAnyH_take (i := 3) (v := (.bool e)) rfl (by kernel_rfl) (by kernel_rfl) (by kernel_rfl) (fun _ _ _ h => (show False from h).elim) (Or.inl ⟨by rfl, fun w' hw' => ?_⟩) hS ?_
                    · go_simp
                    simp only [Act.put, List.getElem_toArray, List.getElem_cons_zero, List.getElem_cons_succ, List.setIfInBounds_toArray, List.set_cons_zero, List.set_cons_succ]
                    refine wpAnyH_take (i := 5) (v := (.slice pp P.length pc)) rfl (by kernel_rfl) (by kernel_rfl) (by kernel_rfl) (fun _ _ _ h => (show False from h).elim) (Or.inl ⟨by rfl, fun w' hw' => ?_⟩) hS ?_
                    · go_simp
                    simp only [Act.put, List.getElem_toArray, List.getElem_cons_zero, List.getElem_cons_succ, List.setIfInBounds_toArray, List.set_cons_zero, List.set_cons_succ]
                    refine wpAnyH_take (i := 7) (v := (.slice pq left.length pd)) rfl (by kernel_rfl) (by kernel_rfl) (by kernel_rfl) (fun _ _ _ h => (show False from h).elim) (Or.inl ⟨by rfl, fun w' hw' => ?_⟩) hS ?_
                    · go_simp
                    simp only [Act.put, List.getElem_toArray, List.getElem_cons_zero, List.getElem_cons_succ, List.setIfInBounds_toArray, List.set_cons_zero, List.set_cons_succ]
                    refine wpAnyH_take (i := 10) (v := (.slice co cur.length cc)) rfl (by kernel_rfl) (by kernel_rfl) (by kernel_rfl) (fun _ _ _ h => (show False from h).elim) (Or.inl ⟨by rfl, fun w' hw' => ?_⟩) hS ?_
                    · go_simp
                    simp only [Act.put, List.getElem_toArray, List.getElem_cons_zero, List.getElem_cons_succ, List.setIfInBounds_toArray, List.set_cons_zero, List.set_cons_succ]
                    refine wpAnyH_take (i := 11) (v := (.int .i64 (most : Int))) rfl (by kernel_rfl) (by kernel_rfl) (by kernel_rfl) (fun _ _ _ h => (show False from h).elim) (Or.inl ⟨by rfl, fun w' hw' => ?_⟩) hS ?_
                    · go_simp
                    simp only [Act.put, List.getElem_toArray, List.getElem_cons_zero, List.getElem_cons_succ, List.setIfInBounds_toArray, List.set_cons_zero, List.set_cons_succ]
                    refine wpAnyH_ready (rs := [4, 8]) (by kernel_rfl) (by simp) ?_
                    refine AllReadyH.cons rfl (fun K hK => ?_) (AllReadyH.cons rfl (fun K hK => ?_) AllReadyH.nil)
                    · go_simp
                      refine hK.out _ _ trivial (fun hS => ?_)
                      clear hK K
                      refine wpAnyH_ready (rs := [6, 8]) (by kernel_rfl) (by simp) ?_
                      refine AllReadyH.cons rfl (fun K hK => ?_) (AllReadyH.cons rfl (fun K hK => ?_) AllReadyH.nil)
                      · refine step_append_run rfl (.tmp 116) (.tmp 117) 36 rfl _ _ (by rfl) (by rfl) _ _ (hrA1 _) ?_
                        simp only [Act.put, List.getElem_toArray, List.getElem_cons_zero, List.getElem_cons_succ, List.setIfInBounds_toArray, List.set_cons_zero, List.set_cons_succ]
                        refine hK.out _ _ trivial (fun hS => ?_)
                        clear hK K
                        refine wpAnyH_ready (rs := [8]) (by kernel_rfl) (by simp) ?_
                        refine AllReadyH.cons rfl (fun K hK => ?_) AllReadyH.nil
                        go_simp
                        refine hK.out _ _ trivial (fun hS => ?_)
                        clear hK K
                        refine wpAnyH_ready (rs := [9]) (by kernel_rfl) (by simp) ?_
                        refine AllReadyH.cons rfl (fun K hK => ?_) AllReadyH.nil
                        refine step_append_run rfl (.tmp 118) (.tmp 120) 36 rfl _ _ (by rfl) (by rfl) _ _ (hrA2 _) ?_
                        simp only [Act.put, List.getElem_toArray, List.getElem_cons_zero, List.getElem_cons_succ, List.setIfInBounds_toArray, List.set_cons_zero, List.set_cons_succ]
                        refine hK.out _ _ trivial (fun hS => ?_)
                        clear hK K
                        refine wpAnyH_ready (rs := [12]) (by kernel_rfl) (by simp) ?_
                        refine AllReadyH.cons rfl (fun K hK => ?_) AllReadyH.nil
                        go_simp
                        refine (HCALL.out _ _ _ hbA2 hwA2).mono ?_
                        rintro en wE ⟨po', oc', rfl, hz1, hz2, hz3⟩
                        have HZ1 := hid hz1; have HZ2 := hid hz2; have HZ3 := hid hz3
                        clear hz1 hz2 hz3
                        go_simp
                        refine hK.out _ _ trivial (fun hS => ?_)
                        clear hK K
                        refine wpAnyH_ready (rs := [13]) (by kernel_rfl) (by simp) ?_
                        refine AllReadyH.cons rfl (fun K hK => ?_) AllReadyH.nil
                        go_simp
                        refine hK.out _ _ trivial (fun hS => ?_)
                        clear hK K
                        refine wpAnyH_done (by kernel_rfl) ?_ _
                        go_wp2_with fail
                        go_meet
                        all_goals exact HEND.out _ _ _ _ hbA2 HZ1.out HZ2.out HZ3.out
                      · go_simp
                        refine hK.out _ _ trivial (fun hS => ?_)
                        clear hK K
                        refine wpAnyH_ready (rs := [6]) (by kernel_rfl) (by simp) ?_
                        refine AllReadyH.cons rfl (fun K hK => ?_) AllReadyH.nil
                        refine step_append_run rfl (.tmp 116) (.tmp 117) 36 rfl _ _ (by rfl) (by rfl) _ _ (hrB1 _) ?_
                        simp only [Act.put, List.getElem_toArray, List.getElem_cons_zero, List.getElem_cons_succ, List.setIfInBounds_toArray, List.set_cons_zero, List.set_cons_succ]
                        refine hK.out _ _ trivial (fun hS => ?_)
                        clear hK K
                        refine wpAnyH_ready (rs := [9]) (by kernel_rfl) (by simp) ?_
                        refine AllReadyH.cons rfl (fun K hK => ?_) AllReadyH.nil
                        refine step_append_run rfl (.tmp 118) (.tmp 120) 36 rfl _ _ (by rfl) (by rfl) _ _ (hrB2 _) ?_
                        simp only [Act.put, List.getElem_toArray, List.getElem_cons_zero, List.getElem_cons_succ, List.setIfInBounds_toArray, List.set_cons_zero, List.set_cons_succ]
                        refine hK.out _ _ trivial (fun hS => ?_)
                        clear hK K
                        refine wpAnyH_ready (rs := [12]) (by kernel_rfl) (by simp) ?_
                        refine AllReadyH.cons rfl (fun K hK => ?_) AllReadyH.nil
                        go_simp
                        refine (HCALL.out _ _ _ hbB2 hwB2).mono ?_
                        rintro en wE ⟨po', oc', rfl, hz1, hz2, hz3⟩
                        have HZ1 := hid hz1; have HZ2 := hid hz2; have HZ3 := hid hz3
                        clear hz1 hz2 hz3
                        go_simp
                        refine hK.out _ _ trivial (fun hS => ?_)
                        clear hK K
                        refine wpAnyH_ready (rs := [13]) (by kernel_rfl) (by simp) ?_
                        refine AllReadyH.cons rfl (fun K hK => ?_) AllReadyH.nil
                        go_simp
                        refine hK.out _ _ trivial (fun hS => ?_)
                        clear hK K
                        refine wpAnyH_done (by kernel_rfl) ?_ _
                        go_wp2_with fail
                        go_meet
                        all_goals exact HEND.out _ _ _ _ hbB2 HZ1.out HZ2.out HZ3.out
                    · go_simp
                      refine hK.out _ _ trivial (fun hS => ?_)
                      clear hK K
                      refine wpAnyH_ready (rs := [4]) (by kernel_rfl) (by simp) ?_
                      refine AllReadyH.cons rfl (fun K hK => ?_) AllReadyH.nil
                      go_simp
                      refine hK.out _ _ trivial (fun hS => ?_)
                      clear hK K
                      refine wpAnyH_ready (rs := [6]) (by kernel_rfl) (by simp) ?_
                      refine AllReadyH.cons rfl (fun K hK => ?_) AllReadyH.nil
                      refine step_append_run rfl (.tmp 116) (.tmp 117) 36 rfl _ _ (by rfl) (by rfl) _ _ (hrC1 _) ?_
                      simp only [Act.put, List.getElem_toArray, List.getElem_cons_zero, List.getElem_cons_succ, List.setIfInBounds_toArray, List.set_cons_zero, List.set_cons_succ]
                      refine hK.out _ _ trivial (fun hS => ?_)
                      clear hK K
                      refine wpAnyH_ready (rs := [9]) (by kernel_rfl) (by simp) ?_
                      refine AllReadyH.cons rfl (fun K hK => ?_) AllReadyH.nil
                      refine step_append_run rfl (.tmp 118) (.tmp 120) 36 rfl _ _ (by rfl) (by rfl) _ _ (hrC2 _) ?_
                      simp only [Act.put, List.getElem_toArray, List.getElem_cons_zero, List.getElem_cons_succ, List.setIfInBounds_toArray, List.set_cons_zero, List.set_cons_succ]
                      refine hK.out _ _ trivial (fun hS => ?_)
                      clear hK K
                      refine wpAnyH_ready (rs := [12]) (by kernel_rfl) (by simp) ?_
                      refine AllReadyH.cons rfl (fun K hK => ?_) AllReadyH.nil
                      go_simp
                      refine (HCALL.out _ _ _ hbC2 hwC2).mono ?_
                      rintro en wE ⟨po', oc', rfl, hz1, hz2, hz3⟩
                      have HZ1 := hid hz1; have HZ2 := hid hz2; have HZ3 := hid hz3
                      clear hz1 hz2 hz3
                      go_simp
                      refine hK.out _ _ trivial (fun hS => ?_)
                      clear hK K
                      refine wpAnyH_ready (rs := [13]) (by kernel_rfl) (by simp) ?_
                      refine AllReadyH.cons rfl (fun K hK => ?_) AllReadyH.nil
                      go_simp
                      refine hK.out _ _ trivial (fun hS => ?_)
                      clear hK K
                      refine wpAnyH_done (by kernel_rfl) ?_ _
                      go_wp2_with fail
                      go_meet
                      all_goals exact HEND.out _ _ _ _ hbC2 HZ1.out HZ2.out HZ3.out
                  | false =>
                    have hgo := HG0.out
                    have hbz : (behP e x ks left p) = [] := by
                      unfold behP
                      rw [HZ0.out, if_neg (by rw [hgo]; simp)]
                    have hcz : cur = out ++ (((done ++ [p]).flatMap (behP e x ks left)).map (P ++ ·)).take (most - out.length) := by
                      rw [List.flatMap_append]
                      simp only [List.flatMap_cons, List.flatMap_nil, List.append_nil, hbz]
                      exact HDD.out.hand
                    have HX1 := hid hcz; have HX2 := hid hwv; have HX3 := hid hpu; have HX4 := hid hfu
                    clear hbz hcz hwv hpu hfu hgo
                    go_wp2_with fail
                    go_meet
                    all_goals exact ⟨co, cc, cur, rfl, HX1.out, HX2.out, HX3.out, HX4.out, HDD.out.own⟩
                case rest =>
                  obtain ⟨co', cc', cur', rfl, hcur', hways', hpart', hfr', hown'⟩ := hcut
                  obtain ⟨p1, c1, w6, hr6, hC6, hb6⟩ := copy_row (W := wc) hpart'.ints (fun h => by subst h; exact hpart'.nil0) (by rw [HPL.out]; omega)
                  rw [HPL.out] at hr6
                  have HC6 := hid hC6; have HB6 := hid hb6; have HCUR := hid hcur'; have HWAYS := hid hways'; have HPART := hid hpart'; have HFR := hid hfr'; have HOWN' := hid hown'
                  have HLc : Hid (IntsAt wc la (up left)) := hid (HL.out.fr hfr' fun g o e h => HLA.out g o e h)
                  have HKc : Hid (IntsAt wc ka (up kk)) := hid (HK.out.fr hfr' fun g o e h => HKA.out g o e h)
                  clear hC6 hb6 hcur' hways' hpart' hfr' hown'
                  have wL : IntKind.i64.wrap ((left.length : Int) - 1) = (left.length : Int) - 1 := IntWalk.i64_in _ (by constructor <;> omega)
                  go_wp2_with (first
                    | (at_builtin; refine Lib.wpList_append_run _ rfl _ _ _ _ rfl _ _ rfl rfl _ _ (hr6 _) ?_; clear hr6)
                    | fail)
                  go_loopw [23] (fun jv wq => ∃ (jj : Nat) (jz : Int), jj ≤ left.length ∧ jv = .int .i64 jz ∧ jz = (jj : Int) - 1 ∧ CRow wq wc.heap.size p1 c1 (up (p.take jj ++ List.replicate (left.length - jj) 0)) ∧ Below wc.heap.size wc wq ∧ ∀ i < left.length, jj ≤ i → left.getD i 0 < x * (p.getD i 0 + 1)) (fun jv _ => (intOf jv + 1).toNat)
                  case atStart => exact ⟨left.length, _, Nat.le_refl _, rfl, rfl, by rw [Nat.sub_self, List.replicate_zero, List.append_nil, List.take_of_length_le (by rw [HPL.out]; exact Nat.le_refl _)]; exact HC6.out, HB6.out, fun i hi hle => by omega⟩
                  case round =>
                    obtain ⟨jj, jz, hjl, rfl, hjz, hrow, hbr, hfullr⟩ := hrel
                    cases jj with
                    | zero =>
                      have e1 : jz = -1 := by omega
                      subst e1
                      have hnone := next_none (k := x) HPL.out (fun i hi => hfullr i hi (Nat.zero_le _))
                      rw [box_next HX.out.1 HDD.out.box] at hnone
                      have hrest : rest = [] := by
                        cases rest with
                        | nil => rfl
                        | cons q l => simp at hnone
                      have hfin : res = cur' := by
                        rw [HR2.out, HCUR.out, List.flatMap_append, List.map_append, HDE.out, hrest]
                      have HFIN := hid hfin; have HBR := hid hbr
                      clear hnone hrest hfin hrow hbr hfullr hjz
                      go_wp2_with fail
                      go_big_quiet (fail)
                      all_goals (go_wp2_with fail)
                      go_ret
                      rw [HFIN.out]
                      exact ⟨co', cc', rfl, HWAYS.out.below (below_drawn HBR.out nq), HFR.out.trans (Fr.of_below (below_drawn HBR.out nq)), HOWN'.out⟩
                    | succ t =>
                      have e1 : jz = (t : Int) := by omega
                      subst e1
                      clear hjz
                      have htp : t < p.length := by rw [HPL.out]; omega
                      have htl : (p.take (t + 1)).length = t + 1 := by rw [List.length_take]; omega
                      have hfl : t < (p.take (t + 1) ++ List.replicate (left.length - (t + 1)) 0).length := by rw [List.length_append, htl, List.length_replicate]; omega
                      obtain ⟨g, rfl⟩ : ∃ g, p1 = some ⟨g, 0, none⟩ := by
                        rcases hrow.2 with ⟨h1, h0⟩ | ⟨g, cap, curx, h1, _⟩
                        · rw [up_len] at h0; omega
                        · cases h1; exact ⟨_, rfl⟩
                      obtain ⟨hrc, hrf, hq1, hq2⟩ := crow_cell hrow hfl
                      have hgt : (p.take (t + 1) ++ List.replicate (left.length - (t + 1)) 0).getD t 0 = p.getD t 0 := by
                        rw [List.getD_eq_getElem?_getD, List.getElem?_append_left (by omega), List.getElem?_take_of_lt (by omega), ← List.getD_eq_getElem?_getD]
                      obtain ⟨y, hy⟩ : ∃ y, p.getD t 0 = y := ⟨_, rfl⟩
                      rw [hgt, hy] at hrc
                      have htL : t < left.length := by omega
                      obtain ⟨lb, lo, rfl, hlc⟩ := up_int (HLc.out.below hbr) htL
                      obtain ⟨kb, ko, rfl, hkc⟩ := up_int (HKc.out.below hbr) (i := 0) (by have := HKL.out; omega)
                      have hk0' : kk.getD 0 0 = x := by rw [← HKK.out]; rfl
                      rw [hk0', Nat.add_zero] at hkc
                      obtain ⟨l, hl⟩ : ∃ l, left.getD t 0 = l := ⟨_, rfl⟩
                      rw [hl] at hlc
                      have hl6' : l ≤ 6 := by rw [← hl, List.getD_eq_getElem?_getD, List.getElem?_eq_getElem htL]; exact HL6.out _ (List.getElem_mem _)
                      have hle := HPLE.out t htL
                      rw [hl, hy] at hle
                      have hx6 := HX.out.2
                      have hx1 := HX.out.1
                      have hy6 : y ≤ 6 := Nat.le_trans (Nat.le_mul_of_pos_left _ hx1) (Nat.le_trans hle hl6')
                      obtain ⟨y1, hy1⟩ : ∃ y1, y + 1 = y1 := ⟨_, rfl⟩
                      obtain ⟨z, hz⟩ : ∃ z, x * y1 = z := ⟨_, rfl⟩
                      have hz42 : z ≤ 42 := by
                        have : x * y1 ≤ 6 * 7 := Nat.mul_le_mul hx6 (by omega)
                        omega
                      have hadd : IntKind.i64.wrap ((y : Int) + 1) = (y1 : Int) := (IntWalk.i64_in _ (by constructor <;> omega)).trans (by omega)
                      have hmul : (x : Int) * (y1 : Int) = (z : Int) := by rw [← hz]; simp
                      have w1' : IntKind.i64.wrap (z : Int) = (z : Int) := IntWalk.i64_in _ (by constructor <;> omega)
                      have w2' : IntKind.i64.wrap ((t : Int) - 1) = (t : Int) - 1 := IntWalk.i64_in _ (by constructor <;> omega)
                      have hkz : (0 : Int) < (kk.length : Int) := by have := HKL.out; omega
                      have hkn : 0 < kk.length := by omega
                      have ht0 : (0 : Int) ≤ (t : Int) := by omega
                      have hbr2 : Below wc.heap.size wc (wr.drew) := hbr.drew
                      have HROW := hid hrow; have HBR := hid hbr; have HFR2 := hid hfullr; have HHY := hid hy; have HHL := hid hl; have HHZ := hid hz; have HHY1 := hid hy1; have HQ1 := hid hq1; have HTL := hid htl; have HFL := hid hfl
                      clear hrow hbr hfullr hy hl hz hy1 hq1 hq2 htl hfl hgt hk0' hl6' hle hx6 hx1 hy6 hz42 htp hbr2
                      by_cases hgt2 : l < z
                      · have hgz : (l : Int) < (z : Int) := by omega
                        go_wp2_with fail
                        go_big_quiet (fail)
                        all_goals (go_wp2_with fail)
                        have hset := crow_set (j := t) (HROW.out.below (below_drawn (Below.refl _ wr) nq)) 0
                        rw [clear_set HPL.out htL, zero_cons htL] at hset
                        refine ⟨⟨t, _, by omega, rfl, rfl, hset, (below_drawn HBR.out nq).setCell (p := ⟨g, t, none⟩) HQ1.out _, fun i hi hti => ?_⟩, by simp [intOf]⟩
                        by_cases e2 : i = t
                        · subst e2
                          rw [HHL.out, HHY.out, HHY1.out, HHZ.out]
                          exact hgt2
                        · exact HFR2.out i hi (by omega)
                      · have hgz : ¬ (l : Int) < (z : Int) := by omega
                        go_wp2_with fail
                        go_big_quiet (fail)
                        all_goals (go_wp2_with fail)
                        have hset := crow_set (j := t) (HROW.out.below (below_drawn (Below.refl _ wr) nq)) y1
                        rw [clear_set HPL.out htL] at hset
                        have hnext := next_some (k := x) HPL.out htL (fun i hi hti => HFR2.out i hi (by omega)) (by rw [HHL.out, HHY.out, HHY1.out, HHZ.out]; omega)
                        rw [HHY.out, HHY1.out, box_next HX.out.1 HDD.out.box] at hnext
                        obtain ⟨q, hq⟩ : ∃ q, p.take t ++ y1 :: List.replicate (left.length - (t + 1)) 0 = q := ⟨_, rfl⟩
                        rw [hq] at hset hnext
                        obtain ⟨rest', hrest⟩ : ∃ rest', rest = q :: rest' := by
                          cases rest with
                          | nil => simp at hnext
                          | cons a l' =>
                            simp only [List.head?_cons, Option.some.injEq] at hnext
                            exact ⟨l', by rw [hnext]⟩
                        have hql : q.length = left.length := by
                          rw [← hq, List.length_append, List.length_take, List.length_cons, List.length_replicate]
                          have := HPL.out
                          omega
                        have hbox : boxes x left = (done ++ [p]) ++ q :: rest' := by
                          rw [HDD.out.box, hrest]; simp
                        have hbw := (below_drawn HBR.out nq).setCell (p := ⟨g, t, none⟩) HQ1.out (.int .i64 (y1 : Int))
                        have hwc : w.heap.size ≤ wc.heap.size := HFR.out.low.size
                        have hpar : CRow ((wr.drewN nq).setCell ⟨g, t, none⟩ (.int .i64 (y1 : Int))) w.heap.size (some ⟨g, 0, none⟩) c1 (up q) := hset.mono hwc
                        refine ⟨⟨done ++ [p], q, rest', co', cc', cur', some ⟨g, 0, none⟩, c1, rfl, by rw [hql], hbox, HCUR.out, HWAYS.out.below hbw, hpar, HFR.out.trans (Fr.of_below hbw), HOWN'.out⟩, ?_⟩
                        have e1 := readN_row hpar
                        have e2 := readN_row HDD.out.part
                        rw [hql] at e1
                        rw [HPL.out] at e2
                        have hpw := boxes_rise (k0 := x) left
                        rw [e1, e2]
                        have f1 : (boxes x left).filter (fun r => decide (q < r)) = rest' := by
                          have h9 := hpw
                          rw [hbox] at h9 ⊢
                          exact filt_rest h9
                        have f2 : (boxes x left).filter (fun r => decide (p < r)) = rest := by
                          have h9 := hpw
                          rw [HDD.out.box] at h9 ⊢
                          exact filt_rest h9
                        rw [f1, f2, hrest]
                        simp
          · have hrc : res = cur := by
              have h1 : most ≤ (out ++ D).length := by
                rw [hcur] at hfull
                rw [List.length_append, List.length_take] at hfull
                rw [List.length_append]; omega
              rw [hres2, hcur]
              exact hand_full out D _ most h1 (Nat.le_of_lt hom)
            have hfz : ¬ (cur.length : Int) < (most : Int) := by omega
            have HDD := hid hd
            clear hpm hpl hple hww hcur hres2 hD hd
            go_wp2_with fail
            go_ret
            exact ⟨co, cc, rfl, HDD.out.ways, HDD.out.fr, HDD.out.own⟩
  · have hf : e = false ∧ mayB (up left) (up kk) = false := by simpa using hm
    obtain ⟨rfl, hm2⟩ := hf
    rw [hm2] at HMAY
    have hw : WW false kk left = [] := WW_may HK1.out hm2
    have hro : res = out := by rw [← HRES.out, hw, List.map_nil, List.take_nil, List.append_nil]
    rw [hro]
    clear hm hm2 hw hro
    go_enter Tryd.func24, Tryd.ntmps24
    go_wp2_with fail
    refine HMAY.out.mono ?_
    rintro en w1 ⟨rfl, hb1⟩
    have HB1 := hid hb1
    clear hb1
    go_wp2_with fail
    go_ret
    exact DealEnd.same HO.out HB1.out
theorem deal_any (e : Bool) (most : Nat) (hmost : most ≤ 1000000) : ∀ ks : List Nat, (∀ y ∈ ks, 1 ≤ y ∧ y ≤ 6) → DealOk e most ks
  | [], _ => by
    intro la lc left ka kc pp pc P po oc out base w hL hK hcap hP hO hb hPl hPr hom hl5 hl6 hla hka
    have h := deal_nil la lc left ka kc e pp pc P po oc out (most : Int) base w hL hP hO hb (by simpa using hPl) hPr (by omega)
    have e1 : (if left.all (· == 0) then out ++ [P] else out) = out ++ ((WW e [] left).map (P ++ ·)).take (most - out.length) := by
      unfold WW
      split
      · rw [List.map_cons, List.map_nil, List.append_nil, List.take_of_length_le (by simp; omega)]
      · simp
    rw [e1] at h
    exact h
  | x :: ks, h => deal_cons (h x (by simp)) (fun y hy => h y (by simp [hy])) (deal_any e most hmost ks fun y hy => h y (by simp [hy]))
end Go.Proofs.YtdpdpjfnanjmgaaDoor
