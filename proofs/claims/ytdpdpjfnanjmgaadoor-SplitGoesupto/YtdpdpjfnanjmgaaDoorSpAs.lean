/- The document's deal: nobody is left. -/
import Derived.Test.YtdpdpjfnanjmgaaDoorSpAr
import Derived.Test.YtdpdpjfnanjmgaaDoorSpAd
import Derived.Test.YtdpdpjfnanjmgaaDoorSpH
import Derived.Test.YtdpdpjfnanjmgaaDoorSpU
namespace Go.Proofs.YtdpdpjfnanjmgaaDoor
open Go.RowKit Go.Shelf

theorem Tryd.info36 : (Tryd.prog.info? 36).map (fun i => (i.zero, i.size, i.bytes)) = some (some (.slice none 0 0), 1, 24) := by kernel_rfl
/-- One row more behind rows of one's own. -/
theorem way_push {W : World} {base : Nat} {p : Option Addr} {c : Nat} {R : List (List Nat)} {q : Option Addr} {d : Nat} {r : List Nat} (h : WayZ W base (.slice p R.length c) R) (hq : CRow W base q d (up r)) (hb : base ≤ W.heap.size) (hl : R.length ≤ 1000) :
    ∃ (p' : Option Addr) (c' : Nat) (w' : World), (∀ ty, (Builtin.append_ #[36, 36] ty #[.slice p R.length c, .slice (some ⟨W.heap.size, 0, none⟩) 1 1]).run Tryd.prog (W.alloc (.cells #[.slice q r.length d] 23)) = .ok (.slice p' (R.length + 1) c') w') ∧ WayZ w' base (.slice p' (R.length + 1) c') (R ++ [r]) ∧ Fr (fun b => (Value.slice p R.length c).ownBlock = some b) W w' ∧ Below base W w' := by
  obtain ⟨xs, h1, h2⟩ := h
  have hxl : xs.length = R.length := by have := h1.1; omega
  obtain ⟨i0, hi0, hz0, hz1, hz2⟩ := info_parts Tryd.info23
  have b1 := alloc_below0 W (.cells #[.slice q r.length d] 23)
  obtain ⟨p', c', w', hr, ho, hf, -⟩ := run_appG (P := Tryd.prog) 36 36 23 i0 _ 24 Tryd.underlying36 hi0 hz0 hz1 hz2 rfl (by omega) base _ R.length xs _ (own_below h1 b1) (some ⟨W.heap.size, 0, none⟩) 1 1 [.slice q r.length d] (.inr ⟨_, rfl, rfl, cell_new W _ 23⟩) (by intro u hu; rw [List.mem_singleton.1 hu]; rfl) (by omega) (Nat.le_trans hb b1.size)
  have hfw : Fr (fun b => (Value.slice p R.length c).ownBlock = some b) W w' := (Fr.of_below b1).trans hf
  have hty : Typ 23 W w' := Typ.of_fr hfw fun b hb => (own_blk h1 hb).2.2
  refine ⟨p', c', w', fun _ => hr, WayZ.push h2 hxl ho hty (hq.typ23 hty), hfw, hfw.below (fun b hb => (own_blk h1 hb).1) hb⟩
/-- One way more behind ways of one's own. -/
theorem ways_push {W : World} {base : Nat} {p : Option Addr} {c : Nat} {L : List (List (List Nat))} {x : Value} {R : List (List Nat)} (h : WaysZ W base (.slice p L.length c) L) (hx : WayZ W base x R) (h1x : x.oneCell' = true) (hb : base ≤ W.heap.size) (hl : L.length ≤ 1000000) :
    ∃ (p' : Option Addr) (c' : Nat) (w' : World), (∀ ty, (Builtin.append_ #[30, 30] ty #[.slice p L.length c, .slice (some ⟨W.heap.size, 0, none⟩) 1 1]).run Tryd.prog (W.alloc (.cells #[x] 36)) = .ok (.slice p' (L.length + 1) c') w') ∧ WaysZ w' base (.slice p' (L.length + 1) c') (L ++ [R]) ∧ Fr (fun b => (Value.slice p L.length c).ownBlock = some b) W w' ∧ ((Value.slice p' (L.length + 1) c').ownBlock = (Value.slice p L.length c).ownBlock ∨ ∃ q, (Value.slice p' (L.length + 1) c').ownBlock = some q ∧ W.heap.size ≤ q) := by
  obtain ⟨xs, h1, h2⟩ := h
  have hxl : xs.length = L.length := by have := h1.1; omega
  obtain ⟨i0, hi0, hz0, hz1, hz2⟩ := info_parts Tryd.info36
  have b1 := alloc_below0 W (.cells #[x] 36)
  obtain ⟨p', c', w', hr, ho, hf, hob⟩ := run_appG (P := Tryd.prog) 30 30 36 i0 _ 24 Tryd.underlying30 hi0 hz0 hz1 hz2 rfl (by omega) base _ L.length xs _ (own_below h1 b1) (some ⟨W.heap.size, 0, none⟩) 1 1 [x] (.inr ⟨_, rfl, rfl, cell_new W _ 36⟩) (by intro u hu; rw [List.mem_singleton.1 hu]; exact h1x) (by omega) (Nat.le_trans hb b1.size)
  have hfw : Fr (fun b => (Value.slice p L.length c).ownBlock = some b) W w' := (Fr.of_below b1).trans hf
  have hty : Typ 36 W w' := Typ.of_fr hfw fun b hb => (own_blk h1 hb).2.2
  refine ⟨p', c', w', fun _ => hr, WaysZ.push h2 hxl ho hty (hx.typ hty), hfw, ?_⟩
  rcases hob with h | h
  · exact .inl h
  · exact .inr ⟨_, h, by rw [World.size_alloc]; omega⟩
/-- A copy of a row. -/
theorem copy_row {W : World} {q : Option Addr} {d : Nat} {r : List Nat} (hI : IntsAt W q (up r)) (hq : q = none → d = 0) (hl : r.length ≤ 1000) : ∃ (p : Option Addr) (c : Nat) (w' : World), (∀ ty, (Builtin.append_ #[23, 23] ty #[.slice (some ⟨W.heap.size, 0, none⟩) 0 0, .slice q r.length d]).run Tryd.prog (W.alloc (.cells #[] 3)) = .ok (.slice p r.length c) w') ∧ CRow w' W.heap.size p c (up r) ∧ Below W.heap.size W w' := by
  have b1 := alloc_below0 W (.cells #[] 3)
  have hE : (W.alloc (.cells #[] 3)).ownsRow W.heap.size 3 1 (.slice (some ⟨W.heap.size, 0, none⟩) 0 0) 0 [] := ⟨rfl, .inr ⟨W.heap.size, 0, #[], rfl, Nat.le_refl _, World.alloc_heap_new W _, Nat.le_refl _, Nat.zero_le _, rfl, rfl⟩⟩
  have hs := src_i d (hI.below b1) hq
  rw [up_len] at hs
  obtain ⟨p, c, w', hr, hA, hG⟩ := run_appI 23 W.heap.size _ 0 [] _ hE q r.length d (cAll (up r)) hs (cAll_one _) (by omega) b1.size
  rw [Nat.zero_add] at hr hA
  rw [List.nil_append] at hA
  refine ⟨p, c, w', fun _ => hr, ?_, b1.trans ((fr_grown hG).below (fun k hk => by have h7 : some W.heap.size = some k := hk; have := Option.some.inj h7; omega) b1.size)⟩
  unfold CRow
  rw [up_len]
  exact hA
/-- The parts so far, taken over into a row of one's own. -/
def PartsIn (U : World) (base : Nat) (P : List (List Nat)) (w' : World) (p1 : Option Addr) (c1 : Nat) : Prop := ∃ xs : List Value, w'.ownsRow U.heap.size 23 1 (.slice p1 P.length c1) P.length xs ∧ xs.length = P.length ∧ ∀ i (h : i < P.length), ∃ p c, xs[i]? = some (.slice p P[i].length c) ∧ CRow U base p c (up P[i])
theorem PartsIn.below {U : World} {base : Nat} {P : List (List Nat)} {w' w'' : World} {p1 : Option Addr} {c1 : Nat} (h : PartsIn U base P w' p1 c1) (hb : Below w'.heap.size w' w'') : PartsIn U base P w'' p1 c1 := by
  obtain ⟨xs, h1, h2, h3⟩ := h
  exact ⟨xs, own_below h1 hb, h2, h3⟩
theorem parts_app1 {U V1 : World} {base : Nat} {pp : Option Addr} {pc : Nat} {P : List (List Nat)} (hP : WayZ U base (.slice pp P.length pc) P) (hPl : P.length ≤ 5) (hb : Below U.heap.size U V1) {q : Nat} (hq : U.heap.size ≤ q) (h : V1.heap[q]? = some (.cells #[] 23 (0, 0))) :
    ∃ (p1 : Option Addr) (c1 : Nat) (w' : World), (∀ ty, (Builtin.append_ #[36, 36] ty #[.slice (some ⟨q, 0, none⟩) 0 0, .slice pp P.length pc]).run Tryd.prog V1 = .ok (.slice p1 P.length c1) w') ∧ PartsIn U base P w' p1 c1 ∧ Below U.heap.size U w' ∧ ∀ b, b < V1.heap.size → b ≠ q → w'.heap[b]? = V1.heap[b]? := by
  obtain ⟨xs, h1, h2⟩ := hP
  have hxl : xs.length = P.length := by have := h1.1; omega
  obtain ⟨i0, hi0, hz0, hz1, hz2⟩ := info_parts Tryd.info23
  have hsrc : (pp = none ∧ P.length = 0 ∧ pc = 0 ∧ xs = []) ∨ ∃ ad, pp = some ad ∧ xs.length = P.length ∧ ∀ j u, xs[j]? = some u → V1.cell? (ad.add j) = some u := by
    obtain ⟨p', c', e, hn⟩ := own_form h1
    cases e
    cases pp with
    | none =>
      have hP0 : P.length = 0 := by
        rcases Nat.eq_zero_or_pos P.length with h0 | h0
        · exact h0
        · obtain ⟨g, e, _⟩ := own_cell h1 (i := 0) (by omega)
          cases e
      exact .inl ⟨rfl, hP0, hn rfl, List.eq_nil_of_length_eq_zero (by omega)⟩
    | some ad =>
      refine .inr ⟨ad, rfl, hxl, fun j u hj => ?_⟩
      obtain ⟨hjl, rfl⟩ := List.getElem?_eq_some_iff.1 hj
      obtain ⟨g, e, hc⟩ := own_cell h1 hjl
      cases e
      rw [Addr.add_lit, Nat.zero_add]
      exact below_cell hb _ _ hc
  have hone : ∀ u ∈ xs, u.oneCell' = true := fun u hu => by
    obtain ⟨i, hi, rfl⟩ := List.getElem_of_mem hu
    obtain ⟨p', c', g1, _⟩ := h2 i (by omega)
    rw [List.getElem?_eq_getElem hi] at g1
    rw [Option.some.inj g1]
    rfl
  obtain ⟨p1, c1, w', hr, ho, hf, -⟩ := run_appG (P := Tryd.prog) 36 36 23 i0 _ 24 Tryd.underlying36 hi0 hz0 hz1 hz2 rfl (by omega) U.heap.size _ 0 [] V1 (own_empty hq h) pp P.length pc xs hsrc hone (by omega) hb.size
  rw [Nat.zero_add] at hr ho
  rw [List.nil_append] at ho
  refine ⟨p1, c1, w', fun _ => hr, ⟨xs, ho, hxl, h2⟩, hb.trans (hf.below (fun b hb => by
    have h7 : some q = some b := hb
    have := Option.some.inj h7; omega) hb.size), fun b hb hne => hf.same b hb fun h => ?_⟩
  have h7 : some q = some b := h
  exact hne (Option.some.inj h7).symm
theorem parts_app2 {U V2 : World} {base base' : Nat} {P : List (List Nat)} {p1 : Option Addr} {c1 : Nat} (hP : PartsIn U base P V2 p1 c1) (hPl : P.length ≤ 5) (hb : Below U.heap.size U V2) {sB : Nat} {q : Option Addr} {d : Nat} {r : List Nat} (hs : V2.heap[sB]? = some (.cells #[.slice q r.length d] 23 (0, 0))) (hq : CRow U base' q d (up r)) (hbb : base ≤ base') (hbu : base ≤ U.heap.size) :
    ∃ (p2 : Option Addr) (c2 : Nat) (w' : World), (∀ ty, (Builtin.append_ #[36, 36] ty #[.slice p1 P.length c1, .slice (some ⟨sB, 0, none⟩) 1 1]).run Tryd.prog V2 = .ok (.slice p2 (P.length + 1) c2) w') ∧ WayZ w' base (.slice p2 (P.length + 1) c2) (P ++ [r]) ∧ Below U.heap.size U w' := by
  obtain ⟨xs, h1, hxl, h2⟩ := hP
  obtain ⟨i0, hi0, hz0, hz1, hz2⟩ := info_parts Tryd.info23
  obtain ⟨p2, c2, w', hr, ho, hf, -⟩ := run_appG (P := Tryd.prog) 36 36 23 i0 _ 24 Tryd.underlying36 hi0 hz0 hz1 hz2 rfl (by omega) U.heap.size _ P.length xs V2 h1 (some ⟨sB, 0, none⟩) 1 1 [.slice q r.length d] (.inr ⟨_, rfl, rfl, fun j u hj => by
    match j, hj with
    | 0, hj =>
      simp at hj
      subst hj
      rw [Addr.add_lit]
      exact cell_box hs rfl⟩) (by intro u hu; rw [List.mem_singleton.1 hu]; rfl) (by omega) hb.size
  have hbw : Below U.heap.size U w' := hb.trans (hf.below (fun b hb => (own_blk h1 hb).1) hb.size)
  refine ⟨p2, c2, w', fun _ => hr, ⟨xs ++ [.slice q r.length d], ?_, fun i hi => ?_⟩, hbw⟩
  · rw [List.length_append, List.length_singleton]
    refine ⟨ho.1, ?_⟩
    rcases ho.2 with h0 | ⟨g, cap, cur, k1, k2, k3⟩
    · exact .inl h0
    · exact .inr ⟨g, cap, cur, k1, Nat.le_trans hbu k2, k3⟩
  · by_cases h : i < P.length
    · obtain ⟨p', c', g1, g2⟩ := h2 i h
      refine ⟨p', c', ?_, ?_⟩
      · rw [List.getElem?_append_left (by omega), g1, List.getElem_append_left h]
      · rw [List.getElem_append_left h]
        exact g2.below hbw
    · rw [List.length_append, List.length_singleton] at hi
      have e : i = P.length := by omega
      subst e
      refine ⟨q, d, ?_, ?_⟩
      · rw [List.getElem?_append_right (by omega), hxl, Nat.sub_self, List.getElem_append_right (by omega)]
        simp
      · rw [List.getElem_append_right (by omega)]
        simpa using (hq.mono hbb).below hbw
/-- What deal leaves. -/
def DealEnd (w : World) (base : Nat) (ov : Value) (res : List (List (List Nat))) (en : Ending) (w' : World) : Prop := ∃ po oc, en = .returned (.slice po res.length oc) ∧ WaysZ w' base (.slice po res.length oc) res ∧ Fr (fun q => ov.ownBlock = some q) w w' ∧ ∀ q, (Value.slice po res.length oc).ownBlock = some q → ov.ownBlock = some q ∨ w.heap.size ≤ q
theorem DealEnd.same {w w' : World} {base : Nat} {po : Option Addr} {oc : Nat} {out : List (List (List Nat))} (h : WaysZ w base (.slice po out.length oc) out) (hb : Below w.heap.size w w') : DealEnd w base (.slice po out.length oc) out (.returned (.slice po out.length oc)) w' := ⟨po, oc, rfl, h.below hb, Fr.of_below hb, fun _ hq => .inl hq⟩
theorem any_zero (l : List Nat) : (!(up l).any fun x => x != 0) = l.all (· == 0) := by
  rw [Bool.eq_iff_iff, Bool.not_eq_true', List.any_eq_false, List.all_eq_true]
  unfold up
  constructor
  · intro h x hx
    have := h (x : Int) (List.mem_map.2 ⟨x, hx, rfl⟩)
    simp at this
    simp; omega
  · intro h x hx
    obtain ⟨y, hy, rfl⟩ := List.mem_map.1 hx
    have := h y hy
    simp at this
    simp; omega
set_option maxRecDepth 100000 in
set_option maxHeartbeats 8000000 in
theorem deal_nil (la : Option Addr) (lc : Nat) (left : List Nat) (ka : Option Addr) (kc : Nat) (e : Bool) (pp : Option Addr) (pc : Nat) (P : List (List Nat)) (po : Option Addr) (oc : Nat) (out : List (List (List Nat))) (most : Int) (base : Nat) (w : World) (hL : IntsAt w la (up left)) (hP : WayZ w base (.slice pp P.length pc) P) (hO : WaysZ w base (.slice po out.length oc) out) (hb : base ≤ w.heap.size) (hPl : P.length ≤ 5) (hPr : ∀ r ∈ P, r.length ≤ 1000) (hol : out.length ≤ 1000000) :
    Calls Tryd.prog 24 #[.slice la left.length lc, .slice ka 0 kc, .bool e, .slice pp P.length pc, .slice po out.length oc, .int .i64 most] w (DealEnd w base (.slice po out.length oc) (if left.all (· == 0) then out ++ [P] else out)) := by
  have hno := noneI_any la lc (up left) w hL
  rw [any_zero, up_len] at hno
  have HNO := hid hno
  have HP := hid hP; have HO := hid hO
  clear hno hL hP hO
  by_cases hz : left.all (· == 0) = true
  · rw [if_pos hz]
    rw [hz] at HNO
    clear hz
    go_enter Tryd.func24, Tryd.ntmps24
    go_wp2_with fail
    refine HNO.out.mono ?_
    rintro en w1 ⟨rfl, rfl⟩
    go_wp2_with fail
    go_loopw [14, 15] (fun wv iv wr => ∃ (i : Nat) (p : Option Addr) (c : Nat), i ≤ P.length ∧ iv = .int .i64 (i : Int) ∧ wv = .slice p i c ∧ WayZ wr w1.heap.size (.slice p i c) (P.take i) ∧ Below w1.heap.size w1 wr) (fun _ iv _ => P.length - (intOf iv).toNat)
    case atStart => exact ⟨0, none, 0, Nat.zero_le _, rfl, rfl, WayZ.nil _ _, Below.refl _ _⟩
    case round =>
      obtain ⟨i, p, c, hi, rfl, rfl, hw, hbr⟩ := hrel
      by_cases hlt : i < P.length
      · obtain ⟨xs, h1, h2⟩ := HP.out.below hbr
        obtain ⟨gq, rfl, hgc⟩ := own_cell h1 (i := i) (by have := h1.1; omega)
        obtain ⟨q, d, g1, g2⟩ := h2 i hlt
        have hxi : xs[i]'(by have := h1.1; omega) = .slice q P[i].length d := by
          rw [List.getElem?_eq_getElem (by have := h1.1; omega)] at g1
          exact Option.some.inj g1
        rw [hxi] at hgc
        obtain ⟨r, hr⟩ : ∃ r, P[i] = r := ⟨_, rfl⟩
        have hrl : r.length ≤ 1000 := by rw [← hr]; exact hPr _ (List.getElem_mem _)
        rw [hr] at hgc g2
        have hgc' := below_cell (alloc_below0 wr (.cells #[] 3)) _ _ hgc
        have htk : P.take (i + 1) = P.take i ++ [r] := by rw [List.take_succ_eq_append_getElem hlt]; rw [hr]
        have htl : (P.take i).length = i := by rw [List.length_take]; omega
        obtain ⟨p1, c1, w2, hr1, hC2, hb2⟩ := copy_row g2.ints (fun h => by subst h; exact g2.nil0) hrl
        have hw2 := hw.below hb2
        obtain ⟨p3, c3, w3, hr3, hw3, -, hb3⟩ := way_push (R := P.take i) (p := p) (c := c) (by rw [htl]; exact hw2) (hC2.mono hbr.size) (Nat.le_trans hbr.size hb2.size) (by rw [htl]; omega)
        rw [htl] at hr3 hw3
        rw [← htk] at hw3
        have HW3 := hid hw3; have HB3 := hid ((hbr.trans (hb2.mono hbr.size)).trans hb3)
        clear h1 h2 g1 g2 hw hxi hr hrl htk htl hC2 hb2 hw2 hw3 hb3 hbr
        go_wp2_with (first
          | (at_builtin; refine Lib.wpList_append_run _ rfl _ _ _ _ rfl _ _ rfl rfl _ _ (hr1 _) ?_; clear hr1)
          | (at_builtin; refine Lib.wpList_append_run _ rfl _ _ _ _ rfl _ _ rfl rfl _ _ (hr3 _) ?_; clear hr3)
          | fail)
        go_roundw
        case rel => exact ⟨i + 1, p3, c3, by omega, by go_num, rfl, HW3.out, HB3.out⟩
        case measure => simp [intOf]; omega
      · have e1 : i = P.length := by omega
        subst e1
        rw [List.take_length] at hw
        obtain ⟨p5, c5, w5, hr5, ho5, hf5, hn5⟩ := ways_push (HO.out.below hbr) (hw.mono hb) rfl (Nat.le_trans hb hbr.size) hol
        have HO5 := hid ho5; have HF5 := hid ((Fr.of_below hbr).trans hf5); have HN5 := hid hn5; have HBR := hid hbr
        clear ho5 hf5 hn5 hw hbr
        go_wp2_with (first
          | (at_builtin; refine Lib.wpList_append_run _ rfl _ _ _ _ rfl _ _ rfl rfl _ _ (hr5 _) ?_; clear hr5)
          | fail)
        go_ret
        refine ⟨p5, c5, ?_, ?_, HF5.out, fun q hq => ?_⟩
        · rw [List.length_append]; rfl
        · rw [List.length_append]; exact HO5.out
        · rw [List.length_append] at hq
          rcases HN5.out with h | ⟨q', h, hle⟩
          · exact .inl (h ▸ hq)
          · rw [List.length_singleton, h] at hq
            have := Option.some.inj hq
            have := HBR.out.size
            exact .inr (by omega)
  · rw [if_neg hz]
    have hz' : left.all (· == 0) = false := by simpa using hz
    rw [hz'] at HNO
    clear hz hz'
    go_enter Tryd.func24, Tryd.ntmps24
    go_wp2_with fail
    refine HNO.out.mono ?_
    rintro en w1 ⟨rfl, rfl⟩
    go_wp2_with fail
    go_ret
    exact DealEnd.same HO.out (Below.refl _ _)
end Go.Proofs.YtdpdpjfnanjmgaaDoor
