/- For every input of bulk at most 1048576, DeriveDoes returns true: Do and Back of the program answer as the document's do, from any right term, step by step, and of others they end and the term stays; the condition is the second form's bound. -/
import Derived.Maps.AppendAt
import Derived.Test.YtokbgbbkopmngaaDvG
import Derived.Test.YtokbgbbkopmngaaTPath
import Derived.Test.YtokbgbbkopmngaaDvQ
import Derived.Deep.RegionHeld3
import Derived.Deep.DeepCutAuto
import Derived.Test.YtokbgbbkopmngaaKRSorted
import Derived.Test.YtokbgbbkopmngaaKDvY
/- Paths put together. -/
namespace Go.Proofs.Ytokbgbbkopmngaa
open Go.RowKit Go.Deep

theorem intsV_one (l : List Int) : ∀ u ∈ intsV l, u.oneCell' = true := fun u hu => by
  obtain ⟨k, _, rfl⟩ := List.mem_map.1 hu
  rfl
theorem intsV_len (l : List Int) : (intsV l).length = l.length := by unfold intsV; rw [List.length_map]
theorem intsV_app (a b : List Int) : intsV (a ++ b) = intsV a ++ intsV b := by unfold intsV; rw [List.map_append]
set_option maxRecDepth 100000 in
/-- Numbers behind a list of one's own. -/
theorem app_ints {w : World} {B k : Nat} {v : Value} {xs : List Value} {pa : Option Addr} {pn pc : Nat} {ps : List Int} (ty : TypeId) (h : w.ownsRow B 3 1 v k xs) (hI : IntsAt w pa pn ps) (hk : k ≤ 2097152) (hp : pn ≤ 2097152) (hB : B ≤ w.heap.size) :
    ∃ v' w', (Builtin.append_ #[37, 37] ty #[v, .slice pa pn pc]).run Try.prog w = .ok v' w' ∧ w'.ownsRow B 3 1 v' (k + pn) (xs ++ intsV ps) ∧ w.grownBy w' v.ownBlock := by
  obtain ⟨i0, hi0, hz0, hz1, hz2⟩ := info_parts Try.info3
  obtain rfl := hI.len
  cases pa with
  | none =>
    have h0 : ps = [] := by
      cases ps with
      | nil => rfl
      | cons x r => obtain ⟨b, off, e, _⟩ := hI.cells 0 (by simp); cases e
    subst h0
    have : (Builtin.append_ #[37, 37] ty #[v, .slice none 0 pc]).run Try.prog w = .ok v w := by
      rcases h.2 with ⟨rfl, rfl⟩ | ⟨g, cap, cur, rfl, _, _, hnc, _⟩
      · simp [Builtin.append_, run_underlying Try.underlying37, sizeOf, typeInfo, hi0, Builtin.lenOf, Builtin.firstCells]
      · simp [Builtin.append_, run_underlying Try.underlying37, sizeOf, typeInfo, hi0, Builtin.lenOf, Builtin.firstCells, hnc, storeCells]
    exact ⟨_, _, this, by simpa [intsV] using h, ⟨rfl, rfl, rfl, Nat.le_refl _, fun _ _ _ => rfl⟩⟩
  | some ad =>
    obtain ⟨v', w1, hr1, hA1, hG1, _, _⟩ := run_append_own_at (P := Try.prog) w B 37 ty 3 i0 _ 1 8 Try.underlying37 hi0 hz0 hz1 hz2 rfl (by decide) v k xs h ad ps.length pc (intsV ps) (by rw [intsV_len, Nat.mul_one])
      (fun j u hu => by
        have hj : j < ps.length := by have := (List.getElem?_eq_some_iff.1 hu).1; rwa [intsV_len] at this
        obtain ⟨b, off, e, hc⟩ := hI.cells j hj
        cases e
        rw [Addr.add_lit]
        unfold intsV at hu
        rw [List.getElem?_map, List.getElem?_eq_getElem hj] at hu
        cases hu
        exact hc) (intsV_one ps) (by unfold maxLen; omega) (by omega) hB
    exact ⟨v', w1, hr1, hA1, hG1⟩
theorem ints_of_owns {w : World} {B k : Nat} {v : Value} {l : List Int} (h : w.ownsRow B 3 1 v k (intsV l)) (hk : k = l.length) : ∃ a c, v = .slice a k c ∧ IntsAt w a k l ∧ k ≤ c ∧ c ≤ maxLen ∧ ∀ ad, a = some ad → B ≤ ad.block := by
  rcases h.2 with ⟨h1, h2⟩ | ⟨g, c, cur, h1, h2, h3, h4, h5, h6, h7⟩
  · have e : l = [] := List.length_eq_zero_iff.1 (by omega)
    subst e
    exact ⟨none, 0, by rw [h1, h2], ⟨hk, fun i hi => absurd hi (by simp)⟩, by omega, Nat.zero_le _, fun ad e => by cases e⟩
  · refine ⟨some ⟨g, 0, none⟩, c, h1, ⟨hk, fun i hi => ⟨g, 0, rfl, ?_⟩⟩, h4, h5, fun ad e => by cases e; exact h2⟩
    rw [Nat.zero_add]
    refine cell_box h3 ?_
    have e1 : (intsV l)[i]? = some (.int .i64 l[i]) := by unfold intsV; rw [List.getElem?_map, List.getElem?_eq_getElem hi]; rfl
    rw [← h7, List.getElem?_take] at e1
    split at e1
    · rw [Array.getElem?_toList] at e1; exact e1
    · cases e1
set_option maxRecDepth 100000 in
/-- Two paths put together in new memory. -/
theorem app_two {w : World} {pa qa : Option Addr} {pn pc qn qc : Nat} {ps qs : List Int} (hI : IntsAt w pa pn ps) (hJ : IntsAt w qa qn qs) (hp : pn ≤ 1048576) (hq : qn ≤ 1048576) :
    ∃ v1 w1, (∀ ty, (Builtin.append_ #[37, 37] ty #[.slice (some ⟨w.heap.size, 0, none⟩) 0 0, .slice pa pn pc]).run Try.prog (w.alloc (.cells #[] 3)).drew = .ok v1 w1) ∧ Below w.heap.size w w1 ∧
      ∃ a c w2, (∀ ty, (Builtin.append_ #[37, 37] ty #[v1, .slice qa qn qc]).run Try.prog w1 = .ok (.slice a (pn + qn) c) w2) ∧ IntsAt w2 a (pn + qn) (ps ++ qs) ∧ pn + qn ≤ c ∧ c ≤ maxLen ∧ Below w.heap.size w w2 ∧ ∀ ad, a = some ad → w.heap.size ≤ ad.block := by
  have b0 : Below w.heap.size w (w.alloc (.cells #[] 3)).drew := (alloc_below0 w _).drew
  have hE : (w.alloc (.cells #[] 3)).drew.ownsRow w.heap.size 3 1 (.slice (some ⟨w.heap.size, 0, none⟩) 0 0) 0 [] := ⟨rfl, .inr ⟨w.heap.size, 0, #[], rfl, Nat.le_refl _, World.alloc_heap_new w _, Nat.le_refl _, Nat.zero_le _, rfl, rfl⟩⟩
  obtain ⟨v1, w1, hr1, hA1, hG1⟩ := app_ints (pc := pc) 37 hE (hI.below b0) (by omega) (by omega) b0.size
  have hb1 : Below w.heap.size w w1 := below_grown b0 hG1 (fun k hk => by have h7 : some w.heap.size = some k := hk; have := Option.some.inj h7; omega)
  rw [List.nil_append, Nat.zero_add] at hA1
  obtain ⟨v2, w2, hr2, hA2, hG2⟩ := app_ints (pc := qc) 37 hA1 (hJ.below hb1) (by omega) (by omega) hb1.size
  have hlo : ∀ k, v1.ownBlock = some k → w.heap.size ≤ k := fun k hk => by
    rcases hA1.2 with ⟨h1, _⟩ | ⟨g, c, cur, h1, h2, _⟩
    · rw [h1] at hk; cases hk
    · rw [h1] at hk; cases hk; exact h2
  have hb2 : Below w.heap.size w w2 := below_grown hb1 hG2 hlo
  rw [← intsV_app] at hA2
  obtain ⟨a, c, rfl, hI2, h1, h2, h3⟩ := ints_of_owns hA2 (by rw [hI.len, hJ.len, List.length_append])
  exact ⟨v1, w1, fun ty => hr1, hb1, a, c, w2, fun ty => hr2, hI2, h1, h2, hb2, h3⟩
end Go.Proofs.Ytokbgbbkopmngaa
/- A clone of numbers. -/
namespace Go.Proofs.Ytokbgbbkopmngaa
open Go.RowKit Go.Deep

theorem IntsAt.keep {w w' : World} {a : Option Addr} {n : Nat} {ps : List Int} (h : IntsAt w a n ps) (hk : ∀ ad, a = some ad → w'.heap[ad.block]? = w.heap[ad.block]?) : IntsAt w' a n ps :=
  ⟨h.len, fun i hi => by obtain ⟨b, o, e, hc⟩ := h.cells i hi; exact ⟨b, o, e, (World.cell?_of_block (w := w) (w' := w') (a := ⟨b, o + i, none⟩) (hk ⟨b, o, none⟩ e)).trans hc⟩⟩
theorem clone_run {w : World} {ps : List Int} {a : Addr} {pn pc : Nat} (hI : IntsAt w (some a) pn ps) (hn : pn ≤ 1048576) :
    ∃ a2 c2 w', (Builtin.append_ #[37, 37] 37 #[.slice (some ⟨w.heap.size, 0, none⟩) 0 0, .slice (some a) pn pc]).run Try.prog (w.alloc (.cells #[] 3)) = .ok (.slice a2 pn c2) w' ∧ IntsAt w' a2 pn ps ∧ pn ≤ c2 ∧ c2 ≤ maxLen ∧ Below w.heap.size w w' ∧ ∀ ad, a2 = some ad → w.heap.size ≤ ad.block := by
  have b0 : Below w.heap.size w (w.alloc (.cells #[] 3)) := alloc_below0 w _
  have hE : (w.alloc (.cells #[] 3)).ownsRow w.heap.size 3 1 (.slice (some ⟨w.heap.size, 0, none⟩) 0 0) 0 [] := ⟨rfl, .inr ⟨w.heap.size, 0, #[], rfl, Nat.le_refl _, World.alloc_heap_new w _, Nat.le_refl _, Nat.zero_le _, rfl, rfl⟩⟩
  obtain ⟨v1, w1, hr1, hA1, hG1⟩ := app_ints (pc := pc) 37 hE (hI.below b0) (by omega) (by omega) b0.size
  have hb1 : Below w.heap.size w w1 := below_grown b0 hG1 (fun k hk => by have h7 : some w.heap.size = some k := hk; have := Option.some.inj h7; omega)
  rw [List.nil_append, Nat.zero_add] at hA1
  obtain ⟨a2, c2, rfl, h1, h2, h3, h4⟩ := ints_of_owns hA1 hI.len
  exact ⟨a2, c2, w1, hr1, h1, h2, h3, hb1, h4⟩
set_option maxRecDepth 100000 in
set_option maxHeartbeats 2000000 in
theorem clonei_any (p : Option Addr) (pn pc : Nat) (ps : List Int) (w : World) (hI : IntsAt w p pn ps) (hn : pn ≤ 1048576) :
    Calls Try.prog 32 #[.slice p pn pc] w fun e w' => ∃ q d, e = .returned (.slice q pn d) ∧ IntsAt w' q pn ps ∧ pn ≤ d ∧ d ≤ maxLen ∧ Below w.heap.size w w' ∧ ∀ ad, q = some ad → w.heap.size ≤ ad.block := by
  cases p with
  | none =>
    have hn : ps = [] := by
      rcases Nat.eq_zero_or_pos ps.length with h0 | h0
      · exact List.eq_nil_of_length_eq_zero h0
      · obtain ⟨_, _, h1, _⟩ := hI.cells 0 h0
        cases h1
    subst hn
    obtain rfl : pn = 0 := hI.len
    have h1 : (binOp .eql 37 (.slice none 0 pc) (.slice none 0 0)).run Try.prog w = .ok (.bool true) w := rfl
    have HI := hid hI
    clear hI
    show Calls Try.prog 32 #[.slice none 0 pc] w _
    go_enter Try.func32, Try.ntmps32
    go_wp2_with fail
    go_ret
    exact ⟨none, 0, rfl, HI.out, Nat.le_refl _, Nat.zero_le _, Below.refl _ _, fun ad h => by cases h⟩
  | some a =>
    have h1 : (binOp .eql 37 (.slice (some a) pn pc) (.slice none 0 0)).run Try.prog w = .ok (.bool false) w := rfl
    obtain ⟨g, cap, w1, hr1, hA1, hc1, hm1, hB1, hlo⟩ := clone_run (pc := pc) hI hn
    have HA1 := hid hA1; have HB1 := hid hB1; have HC1 := hid hc1; have HM1 := hid hm1; have HLO := hid hlo
    clear hI hA1 hB1 hc1 hm1 hlo
    go_enter Try.func32, Try.ntmps32
    go_wp2_with (first
      | (at_builtin; refine Lib.wpList_append_run _ rfl _ _ _ _ rfl _ _ rfl rfl _ _ hr1 ?_; clear hr1)
      | fail)
    go_ret
    exact ⟨_, _, rfl, HA1.out, HC1.out, HM1.out, HB1.out, HLO.out⟩
end Go.Proofs.Ytokbgbbkopmngaa
/- Back. -/
namespace Go.Proofs.Ytokbgbbkopmngaa
open Go.RowKit Go.Deep

/-- What Back answers: the step that leads back, its path in new memory. -/
def BackEnd (w : World) (ps : List Int) (r : Option (Tn × Sp)) (e : Ending) (w' : World) : Prop := ∃ q n d, e = .returned (.tuple #[stepV (ansSp r) q n d, .int .i64 (ansC r)]) ∧ (r ≠ none → IntsAt w' q n ps) ∧ n ≤ 1048576 ∧ n ≤ d ∧ d ≤ maxLen ∧ Below w.heap.size w w' ∧ ∀ ad, q = some ad → w.heap.size ≤ ad.block
theorem set1_fr {W : World} {B k : Nat} (v : Value) : Fr (fun q => q = B) W (W.setCell ⟨B, k, none⟩ v) := ⟨(Below.refl 0 W).setCell (p := ⟨B, k, none⟩) (Nat.zero_le _) _, fun _ _ hq => set_far hq _⟩

set_option maxRecDepth 100000 in
set_option maxHeartbeats 4000000 in
theorem pback_any (S : Option Addr) (n cap : Nat) (L : List Sym) (t : Tn) (a : Option Addr) (c : Nat) (p : Sp) (ps : List Int) (pa : Option Addr) (pn pc : Nat) (w : World)
    (hS : SigAt w S n L) (hT : TmAt w t.1 a c t.2) (hn : nodesF t.2 ≤ 1048576) (hI : IntsAt w pa pn ps) (hpn : pn ≤ 1048576) :
    Calls Try.prog 12 #[.slice S n cap, .agg #[.string t.1.1, .int .i64 t.1.2, .slice a (lenF t.2) c], stepV p pa pn pc] w (BackEnd w ps (stepT (sgOf L) t ps p)) := by
  obtain ⟨r, hr⟩ : ∃ r, stepT (sgOf L) t ps p = r := ⟨_, rfl⟩
  rw [hr]
  obtain ⟨W0, hW0⟩ : ∃ W0, ((w.alloc (.cells #[.string t.1.1, .int .i64 t.1.2, .slice a (lenF t.2) c] 26)).alloc (.cells (stepC p pa pn pc) 39)).alloc (.cells (stepC zSp none 0 0) 39) = W0 := ⟨_, rfl⟩
  have hb0 : Below w.heap.size w W0 := by rw [← hW0]; exact ((alloc_below0 w _).alloc (by simp) _).alloc (by simp; omega) _
  have hsz : W0.heap.size = w.heap.size + 3 := by rw [← hW0]; simp
  have B0 : Box W0 w.heap.size 26 #[.string t.1.1, .int .i64 t.1.2, .slice a (lenF t.2) c] := by rw [← hW0]; exact ((Box.new w 26 _).over _).over _
  have B1 : Box W0 (w.heap.size + 1) 39 (stepC p pa pn pc) := by rw [← hW0]; exact (box_new (by rw [World.size_alloc]) 39 _).over _
  have B2 : Box W0 (w.heap.size + 2) 39 (stepC zSp none 0 0) := by rw [← hW0]; exact box_new (by rw [World.size_alloc, World.size_alloc]) 39 _
  have hC := cloneF_any t.1 t.2 a c W0 (hT.below hb0)
  have d0 := B0.v (k := 0) rfl; have d1 := B0.v (k := 1) rfl; have d2 := B0.v (k := 2) rfl
  have HB0 := hid hb0; have HSZ := hid hsz; have HX0 := hid B0; have HX1 := hid B1; have HX2 := hid B2; have HS := hid hS; have HI := hid hI
  have HR := hid hr; have HN := hid hn
  clear hb0 hsz B0 B1 B2 hS hT hI hr hn
  go_enter Try.func12, Try.ntmps12
  go_wp2_with fail
  clear hW0
  refine hC.mono ?_
  rintro e w1 ⟨a', c', rfl, hF1, hb1, _⟩
  have hsz0 := HSZ.out
  have hs1 := hb1.size
  have X0 := HX0.out.below hb1; have X1 := HX1.out.below hb1; have X2 := HX2.out.below hb1
  have x0 := X0.v (k := 0) rfl; have x1 := X0.v (k := 1) rfl; have x2 := X0.v (k := 2) rfl
  have xf0 := X0.f 0; have xf1 := X0.f 1; have xf2 := X0.f 2
  obtain ⟨W1, hW1⟩ : ∃ W1, ((w1.setCell ⟨w.heap.size, 0, none⟩ (.string t.1.1)).setCell ⟨w.heap.size, 1, none⟩ (.int .i64 t.1.2)).setCell ⟨w.heap.size, 2, none⟩ (.slice a' (lenF t.2) c') = W1 := ⟨_, rfl⟩
  have hFr : Fr (fun q => q = w.heap.size) w1 W1 := by rw [← hW1]; exact sets3_fr _ _ _
  have hsW : W1.heap.size = w1.heap.size := by rw [← hW1]; simp
  have Y0 : Box W1 w.heap.size 26 #[.string t.1.1, .int .i64 t.1.2, .slice a' (lenF t.2) c'] := by rw [← hW1]; exact sets3_box X0 _ _ _
  have Y1 := X1.fr hFr (by omega); have Y2 := X2.fr hFr (by omega)
  have hF2 : FulTm W1 (fun q => W0.heap.size ≤ q) t.1 a' c' t.2 := hF1.keep (fun q hq hlt => hFr.same q hlt (by omega))
  have hbW : Below w.heap.size w W1 := ((HB0.out.trans (hb1.mono HB0.out.size))).trans (hFr.below (fun k hk => by omega) (by omega))
  obtain ⟨ks, hks, hPl⟩ := pl_of_ful Y0 hF2 (by omega)
  have hSW : SigAt W1 S n L := HS.out.below hbW
  have hIW : IntsAt W1 pa pn ps := HI.out.below hbW
  have hD := within_any S n cap w.heap.size 0 L (fun q => W0.heap.size ≤ q) t a' c' ks _ p ps pa pn pc W1 hSW hPl hks HN.out hIW (by omega)
  rw [HR.out] at hD
  have y0 := Y1.v (k := 0) rfl; have y1 := Y1.v (k := 1) rfl; have y2 := Y1.v (k := 2) rfl; have y3 := Y1.v (k := 3) rfl; have y4 := Y1.v (k := 4) rfl
  have hws : w.heap.size + 3 ≤ W1.heap.size ∧ W0.heap.size = w.heap.size + 3 := ⟨by omega, by omega⟩
  have HY1 := hid Y1; have HY2 := hid Y2; have HBW := hid hbW; have HD := hid hD; have HSW := hid hsW
  clear hC d0 d1 d2 hF1 hb1 X0 X1 X2 hFr Y0 Y1 Y2 hF2 hbW hPl hks hSW hIW hD hsW hsz0 hs1
  have HWS : Hid (w.heap.size + 3 ≤ W1.heap.size ∧ W0.heap.size = w.heap.size + 3) := hws
  cases r with
  | none =>
    have hD2 : Calls Try.prog 31 #[.slice S n cap, .pointer (some ⟨w.heap.size, 0, none⟩), stepV p pa pn pc] W1 fun e w2 => e = .returned (.tuple #[stepV zSp none 0 0, .bool false]) ∧ Hid (Box w2 (w.heap.size + 2) 39 (stepC zSp none 0 0)) ∧ Hid (Below w.heap.size w w2) := by
      refine Calls.mono HD.out ?_
      rintro e w2 ⟨he, hb2⟩
      exact ⟨he, HY2.out.below hb2, HBW.out.trans (hb2.mono HBW.out.size)⟩
    have HD2 := hid hD2
    clear hD2 HD hws
    go_wp2_with (first | (go_at_call 31; refine HD2.out.mono ?_; rintro e w2 ⟨rfl, HZ, HB2⟩; have hbv := alloc_below0 w2 (.cells #[.int .i64 0, .slice none 0 0, .int .i64 0, .int .i64 0, .int .i64 0] 39); have Z := HZ.out.below hbv; have z0 := Z.v (k := 0) rfl; have z1 := Z.v (k := 1) rfl; have z2 := Z.v (k := 2) rfl; have z3 := Z.v (k := 3) rfl; have z4 := Z.v (k := 4) rfl; have f0 := Z.f 0; have f1 := Z.f 1; have f2 := Z.f 2; have f3 := Z.f 3; have f4 := Z.f 4; have HZV := hid Z; have HBV := hid (HB2.out.trans (hbv.mono HB2.out.size)); clear Z hbv) | fail)
    refine ret_step rfl rfl (sets5_box HZV.out _ _ _ _ _) rfl rfl ?_
    exact ⟨none, 0, 0, rfl, fun h => absurd rfl h, Nat.zero_le _, Nat.le_refl _, Nat.zero_le _, sets5_below HBV.out (by omega) _ _ _ _ _, fun ad e => by cases e⟩
  | some r =>
    have hD2 : Calls Try.prog 31 #[.slice S n cap, .pointer (some ⟨w.heap.size, 0, none⟩), stepV p pa pn pc] W1 fun e w2 => e = .returned (.tuple #[stepV r.2 none 0 0, .bool true]) ∧ Hid (Box w2 (w.heap.size + 1) 39 (stepC p pa pn pc)) ∧ Hid (Box w2 (w.heap.size + 2) 39 (stepC zSp none 0 0)) ∧ Hid (Below w.heap.size w w2) := by
      refine Calls.mono HD.out ?_
      rintro e w2 ⟨he, A', a2, c2, ks2, hk2, hU⟩
      have hlow : ∀ q, q < w.heap.size + 3 → q ≠ w.heap.size → w2.heap[q]? = W1.heap[q]? := fun q hq hne => hU.same q (by omega) (fun h => by have h : W0.heap.size ≤ q := h; omega) hne
      exact ⟨he, (hlow _ (by omega) (by omega)).trans HY1.out, (hlow _ (by omega) (by omega)).trans HY2.out, ⟨hU.low.os.trans HBW.out.os, hU.low.tape.trans HBW.out.tape, hU.low.output.trans HBW.out.output, Nat.le_trans HBW.out.size hU.low.size, fun q hq => (hlow q (by omega) (by omega)).trans (HBW.out.block q hq)⟩⟩
    have HD2 := hid hD2
    have HPN := hid hpn
    clear hD2 HD hws
    go_wp2_with (first
      | (go_at_call 31; refine HD2.out.mono ?_; rintro e w2 ⟨rfl, HX, HZ, HB2⟩; obtain ⟨V, hV⟩ : ∃ V, w2.alloc (.cells (stepC r.2 none 0 0) 39) = V := ⟨_, rfl⟩; have hbv : Below w2.heap.size w2 V := (by rw [← hV]; exact alloc_below0 _ _); have K : Box V w2.heap.size 39 (stepC r.2 none 0 0) := (by rw [← hV]; exact Box.new _ _ _); have Z := HZ.out.below hbv; have X := HX.out.below hbv; have x1' := X.v (k := 1) rfl; have hbV := HB2.out.trans (hbv.mono HB2.out.size); have HZV := hid Z; have HKV := hid K; have HBV := hid hbV; have HCl := hid (clonei_any pa pn pc ps V (HI.out.below hbV) HPN.out); have HLZ : Hid (w.heap.size + 2 < w2.heap.size) := HZ.out.lt; clear Z X K hbv hbV)
      | (go_at_call 32; refine HCl.out.mono ?_; rintro e w3 ⟨q, d, rfl, hI3, hd3, hm3, hb3, hlo3⟩; obtain ⟨W3, hW3⟩ : ∃ W3, w3.setCell ⟨w2.heap.size, 1, none⟩ (.slice q pn d) = W3 := ⟨_, rfl⟩; have K3 := HKV.out.below hb3; have kf1 := K3.f 1; have k1 := K3.v (k := 1) rfl; have hF3 : Fr (fun q => q = w2.heap.size) w3 W3 := (by rw [← hW3]; exact set1_fr _); have K4 : Box W3 w2.heap.size 39 (stepC r.2 q pn d) := (by rw [← hW3]; exact K3.set 1 _); have Z4 := (HZV.out.below hb3).fr hF3 (by have := HLZ.out; omega); have i0 := K4.v (k := 0) rfl; have i1 := K4.v (k := 1) rfl; have i2 := K4.v (k := 2) rfl; have i3 := K4.v (k := 3) rfl; have i4 := K4.v (k := 4) rfl; have z0 := Z4.v (k := 0) rfl; have z1 := Z4.v (k := 1) rfl; have z2 := Z4.v (k := 2) rfl; have z3 := Z4.v (k := 3) rfl; have z4 := Z4.v (k := 4) rfl; have f0 := Z4.f 0; have f1 := Z4.f 1; have f2 := Z4.f 2; have f3 := Z4.f 3; have f4 := Z4.f 4; have HZ4 := hid Z4; have HI3 := hid hI3; have HD3 := hid hd3; have HM3 := hid hm3; have HB3 := hid hb3; have HF3 := hid hF3; have HLO3 := hid hlo3; have HVS : Hid (w2.heap.size < V.heap.size) := HKV.out.lt; clear K3 K4 Z4 hI3 hd3 hm3 hb3 hF3 hlo3)
      | fail)
    refine ret_step rfl rfl (sets5_box HZ4.out _ _ _ _ _) rfl rfl ?_
    have hb3w : Below w.heap.size w w3 := HBV.out.trans (HB3.out.mono HBV.out.size)
    have hbW3 : Below w.heap.size w W3 := hb3w.trans (HF3.out.below (fun k hk => by have := HLZ.out; omega) hb3w.size)
    refine ⟨q, pn, d, rfl, fun _ => ?_, HPN.out, HD3.out, HM3.out, sets5_below hbW3 (by omega) _ _ _ _ _, fun ad e => Nat.le_trans HBV.out.size (HLO3.out ad e)⟩
    refine HI3.out.keep (fun ad e => ?_)
    have h1 := HLO3.out ad e
    have h2 := HVS.out
    have h3 := HLZ.out
    have hlt : ad.block < w3.heap.size ∨ ¬ ad.block < w3.heap.size := Decidable.em _
    rw [sets5_far (by omega)]
    rcases hlt with hlt | hlt
    · exact HF3.out.same _ hlt (by omega)
    · rw [← hW3]
      exact set_far (by omega) _
end Go.Proofs.Ytokbgbbkopmngaa
/- Back, with the path that it tells. -/
namespace Go.Proofs.Ytokbgbbkopmngaa
open Go.RowKit Go.Deep

/-- The path that is told. -/
def pthN (r : Option (Tn × Sp)) (ps : List Int) : List Int := match r with | none => [] | some _ => ps
/-- What Back answers: the step that leads back, its path in new memory. -/
def BackPth (w : World) (ps : List Int) (r : Option (Tn × Sp)) (e : Ending) (w' : World) : Prop := ∃ q d, e = .returned (.tuple #[stepV (ansSp r) q (pthN r ps).length d, .int .i64 (ansC r)]) ∧ IntsAt w' q (pthN r ps).length (pthN r ps) ∧ Below w.heap.size w w' ∧ ∀ ad, q = some ad → w.heap.size ≤ ad.block
set_option maxRecDepth 100000 in
set_option maxHeartbeats 4000000 in
theorem pback_path (S : Option Addr) (n cap : Nat) (L : List Sym) (t : Tn) (a : Option Addr) (c : Nat) (p : Sp) (ps : List Int) (pa : Option Addr) (pn pc : Nat) (w : World)
    (hS : SigAt w S n L) (hT : TmAt w t.1 a c t.2) (hn : nodesF t.2 ≤ 1048576) (hI : IntsAt w pa pn ps) (hpn : pn ≤ 1048576) :
    Calls Try.prog 12 #[.slice S n cap, .agg #[.string t.1.1, .int .i64 t.1.2, .slice a (lenF t.2) c], stepV p pa pn pc] w (BackPth w ps (stepT (sgOf L) t ps p)) := by
  obtain ⟨r, hr⟩ : ∃ r, stepT (sgOf L) t ps p = r := ⟨_, rfl⟩
  rw [hr]
  obtain ⟨W0, hW0⟩ : ∃ W0, ((w.alloc (.cells #[.string t.1.1, .int .i64 t.1.2, .slice a (lenF t.2) c] 26)).alloc (.cells (stepC p pa pn pc) 39)).alloc (.cells (stepC zSp none 0 0) 39) = W0 := ⟨_, rfl⟩
  have hb0 : Below w.heap.size w W0 := by rw [← hW0]; exact ((alloc_below0 w _).alloc (by simp) _).alloc (by simp; omega) _
  have hsz : W0.heap.size = w.heap.size + 3 := by rw [← hW0]; simp
  have B0 : Box W0 w.heap.size 26 #[.string t.1.1, .int .i64 t.1.2, .slice a (lenF t.2) c] := by rw [← hW0]; exact ((Box.new w 26 _).over _).over _
  have B1 : Box W0 (w.heap.size + 1) 39 (stepC p pa pn pc) := by rw [← hW0]; exact (box_new (by rw [World.size_alloc]) 39 _).over _
  have B2 : Box W0 (w.heap.size + 2) 39 (stepC zSp none 0 0) := by rw [← hW0]; exact box_new (by rw [World.size_alloc, World.size_alloc]) 39 _
  have hC := cloneF_any t.1 t.2 a c W0 (hT.below hb0)
  have d0 := B0.v (k := 0) rfl; have d1 := B0.v (k := 1) rfl; have d2 := B0.v (k := 2) rfl
  have HB0 := hid hb0; have HSZ := hid hsz; have HX0 := hid B0; have HX1 := hid B1; have HX2 := hid B2; have HS := hid hS; have HI := hid hI
  have HR := hid hr; have HN := hid hn
  clear hb0 hsz B0 B1 B2 hS hT hI hr hn
  go_enter Try.func12, Try.ntmps12
  go_wp2_with fail
  clear hW0
  refine hC.mono ?_
  rintro e w1 ⟨a', c', rfl, hF1, hb1, _⟩
  have hsz0 := HSZ.out
  have hs1 := hb1.size
  have X0 := HX0.out.below hb1; have X1 := HX1.out.below hb1; have X2 := HX2.out.below hb1
  have x0 := X0.v (k := 0) rfl; have x1 := X0.v (k := 1) rfl; have x2 := X0.v (k := 2) rfl
  have xf0 := X0.f 0; have xf1 := X0.f 1; have xf2 := X0.f 2
  obtain ⟨W1, hW1⟩ : ∃ W1, ((w1.setCell ⟨w.heap.size, 0, none⟩ (.string t.1.1)).setCell ⟨w.heap.size, 1, none⟩ (.int .i64 t.1.2)).setCell ⟨w.heap.size, 2, none⟩ (.slice a' (lenF t.2) c') = W1 := ⟨_, rfl⟩
  have hFr : Fr (fun q => q = w.heap.size) w1 W1 := by rw [← hW1]; exact sets3_fr _ _ _
  have hsW : W1.heap.size = w1.heap.size := by rw [← hW1]; simp
  have Y0 : Box W1 w.heap.size 26 #[.string t.1.1, .int .i64 t.1.2, .slice a' (lenF t.2) c'] := by rw [← hW1]; exact sets3_box X0 _ _ _
  have Y1 := X1.fr hFr (by omega); have Y2 := X2.fr hFr (by omega)
  have hF2 : FulTm W1 (fun q => W0.heap.size ≤ q) t.1 a' c' t.2 := hF1.keep (fun q hq hlt => hFr.same q hlt (by omega))
  have hbW : Below w.heap.size w W1 := ((HB0.out.trans (hb1.mono HB0.out.size))).trans (hFr.below (fun k hk => by omega) (by omega))
  obtain ⟨ks, hks, hPl⟩ := pl_of_ful Y0 hF2 (by omega)
  have hSW : SigAt W1 S n L := HS.out.below hbW
  have hIW : IntsAt W1 pa pn ps := HI.out.below hbW
  have hD := within_any S n cap w.heap.size 0 L (fun q => W0.heap.size ≤ q) t a' c' ks _ p ps pa pn pc W1 hSW hPl hks HN.out hIW (by omega)
  rw [HR.out] at hD
  have y0 := Y1.v (k := 0) rfl; have y1 := Y1.v (k := 1) rfl; have y2 := Y1.v (k := 2) rfl; have y3 := Y1.v (k := 3) rfl; have y4 := Y1.v (k := 4) rfl
  have hws : w.heap.size + 3 ≤ W1.heap.size ∧ W0.heap.size = w.heap.size + 3 := ⟨by omega, by omega⟩
  have HY1 := hid Y1; have HY2 := hid Y2; have HBW := hid hbW; have HD := hid hD; have HSW := hid hsW
  clear hC d0 d1 d2 hF1 hb1 X0 X1 X2 hFr Y0 Y1 Y2 hF2 hbW hPl hks hSW hIW hD hsW hsz0 hs1
  have HWS : Hid (w.heap.size + 3 ≤ W1.heap.size ∧ W0.heap.size = w.heap.size + 3) := hws
  cases r with
  | none =>
    have hD2 : Calls Try.prog 31 #[.slice S n cap, .pointer (some ⟨w.heap.size, 0, none⟩), stepV p pa pn pc] W1 fun e w2 => e = .returned (.tuple #[stepV zSp none 0 0, .bool false]) ∧ Hid (Box w2 (w.heap.size + 2) 39 (stepC zSp none 0 0)) ∧ Hid (Below w.heap.size w w2) := by
      refine Calls.mono HD.out ?_
      rintro e w2 ⟨he, hb2⟩
      exact ⟨he, HY2.out.below hb2, HBW.out.trans (hb2.mono HBW.out.size)⟩
    have HD2 := hid hD2
    clear hD2 HD hws
    go_wp2_with (first | (go_at_call 31; refine HD2.out.mono ?_; rintro e w2 ⟨rfl, HZ, HB2⟩; have hbv := alloc_below0 w2 (.cells #[.int .i64 0, .slice none 0 0, .int .i64 0, .int .i64 0, .int .i64 0] 39); have Z := HZ.out.below hbv; have z0 := Z.v (k := 0) rfl; have z1 := Z.v (k := 1) rfl; have z2 := Z.v (k := 2) rfl; have z3 := Z.v (k := 3) rfl; have z4 := Z.v (k := 4) rfl; have f0 := Z.f 0; have f1 := Z.f 1; have f2 := Z.f 2; have f3 := Z.f 3; have f4 := Z.f 4; have HZV := hid Z; have HBV := hid (HB2.out.trans (hbv.mono HB2.out.size)); clear Z hbv) | fail)
    refine ret_step rfl rfl (sets5_box HZV.out _ _ _ _ _) rfl rfl ?_
    exact ⟨none, 0, rfl, ⟨rfl, fun i hi => absurd hi (by simp [pthN])⟩, sets5_below HBV.out (by omega) _ _ _ _ _, fun ad e => by cases e⟩
  | some r =>
    have hD2 : Calls Try.prog 31 #[.slice S n cap, .pointer (some ⟨w.heap.size, 0, none⟩), stepV p pa pn pc] W1 fun e w2 => e = .returned (.tuple #[stepV r.2 none 0 0, .bool true]) ∧ Hid (Box w2 (w.heap.size + 1) 39 (stepC p pa pn pc)) ∧ Hid (Box w2 (w.heap.size + 2) 39 (stepC zSp none 0 0)) ∧ Hid (Below w.heap.size w w2) := by
      refine Calls.mono HD.out ?_
      rintro e w2 ⟨he, A', a2, c2, ks2, hk2, hU⟩
      have hlow : ∀ q, q < w.heap.size + 3 → q ≠ w.heap.size → w2.heap[q]? = W1.heap[q]? := fun q hq hne => hU.same q (by omega) (fun h => by have h : W0.heap.size ≤ q := h; omega) hne
      exact ⟨he, (hlow _ (by omega) (by omega)).trans HY1.out, (hlow _ (by omega) (by omega)).trans HY2.out, ⟨hU.low.os.trans HBW.out.os, hU.low.tape.trans HBW.out.tape, hU.low.output.trans HBW.out.output, Nat.le_trans HBW.out.size hU.low.size, fun q hq => (hlow q (by omega) (by omega)).trans (HBW.out.block q hq)⟩⟩
    have HD2 := hid hD2
    have HPN := hid hpn
    clear hD2 HD hws
    go_wp2_with (first
      | (go_at_call 31; refine HD2.out.mono ?_; rintro e w2 ⟨rfl, HX, HZ, HB2⟩; obtain ⟨V, hV⟩ : ∃ V, w2.alloc (.cells (stepC r.2 none 0 0) 39) = V := ⟨_, rfl⟩; have hbv : Below w2.heap.size w2 V := (by rw [← hV]; exact alloc_below0 _ _); have K : Box V w2.heap.size 39 (stepC r.2 none 0 0) := (by rw [← hV]; exact Box.new _ _ _); have Z := HZ.out.below hbv; have X := HX.out.below hbv; have x1' := X.v (k := 1) rfl; have hbV := HB2.out.trans (hbv.mono HB2.out.size); have HZV := hid Z; have HKV := hid K; have HBV := hid hbV; have HCl := hid (clonei_any pa pn pc ps V (HI.out.below hbV) HPN.out); have HLZ : Hid (w.heap.size + 2 < w2.heap.size) := HZ.out.lt; clear Z X K hbv hbV)
      | (go_at_call 32; refine HCl.out.mono ?_; rintro e w3 ⟨q, d, rfl, hI3, hd3, hm3, hb3, hlo3⟩; obtain ⟨W3, hW3⟩ : ∃ W3, w3.setCell ⟨w2.heap.size, 1, none⟩ (.slice q pn d) = W3 := ⟨_, rfl⟩; have K3 := HKV.out.below hb3; have kf1 := K3.f 1; have k1 := K3.v (k := 1) rfl; have hF3 : Fr (fun q => q = w2.heap.size) w3 W3 := (by rw [← hW3]; exact set1_fr _); have K4 : Box W3 w2.heap.size 39 (stepC r.2 q pn d) := (by rw [← hW3]; exact K3.set 1 _); have Z4 := (HZV.out.below hb3).fr hF3 (by have := HLZ.out; omega); have i0 := K4.v (k := 0) rfl; have i1 := K4.v (k := 1) rfl; have i2 := K4.v (k := 2) rfl; have i3 := K4.v (k := 3) rfl; have i4 := K4.v (k := 4) rfl; have z0 := Z4.v (k := 0) rfl; have z1 := Z4.v (k := 1) rfl; have z2 := Z4.v (k := 2) rfl; have z3 := Z4.v (k := 3) rfl; have z4 := Z4.v (k := 4) rfl; have f0 := Z4.f 0; have f1 := Z4.f 1; have f2 := Z4.f 2; have f3 := Z4.f 3; have f4 := Z4.f 4; have HZ4 := hid Z4; have HI3 := hid hI3; have HD3 := hid hd3; have HM3 := hid hm3; have HB3 := hid hb3; have HF3 := hid hF3; have HLO3 := hid hlo3; have HVS : Hid (w2.heap.size < V.heap.size) := HKV.out.lt; clear K3 K4 Z4 hI3 hd3 hm3 hb3 hF3 hlo3)
      | fail)
    refine ret_step rfl rfl (sets5_box HZ4.out _ _ _ _ _) rfl rfl ?_
    have hb3w : Below w.heap.size w w3 := HBV.out.trans (HB3.out.mono HBV.out.size)
    have hbW3 : Below w.heap.size w W3 := hb3w.trans (HF3.out.below (fun k hk => by have := HLZ.out; omega) hb3w.size)
    refine ⟨q, d, by rw [show (pthN (some r) ps).length = pn from HI3.out.len.symm]; rfl, ?_, sets5_below hbW3 (by omega) _ _ _ _ _, fun ad e => Nat.le_trans HBV.out.size (HLO3.out ad e)⟩
    rw [show (pthN (some r) ps).length = pn from HI3.out.len.symm]
    show IntsAt _ q pn ps
    refine HI3.out.keep (fun ad e => ?_)
    have h1 := HLO3.out ad e
    have h2 := HVS.out
    have h3 := HLZ.out
    have hlt : ad.block < w3.heap.size ∨ ¬ ad.block < w3.heap.size := Decidable.em _
    rw [sets5_far (by omega)]
    rcases hlt with hlt | hlt
    · exact HF3.out.same _ hlt (by omega)
    · rw [← hW3]
      exact set_far (by omega) _
end Go.Proofs.Ytokbgbbkopmngaa
/- The document's node, swap. -/
namespace Go.Proofs.Ytokbgbbkopmngaa
open Go.RowKit Go.Deep

set_option maxRecDepth 100000 in
set_option maxHeartbeats 4000000 in
theorem dnode_swap (S : Option Addr) (n cap : Nat) (L : List Sym) (t : Tn) (a : Option Addr) (c : Nat) (p : Sp) (pa : Option Addr) (pn pc : Nat) (w : World)
    (hS : SigAt w S n L) (hT : TmAt w t.1 a c t.2) (hn : nodesF t.2 ≤ 1048576) (hG : gathN (sgOf L) t = true → 2 ≤ lenF t.2) (hk : p.kind = 3) :
    Calls Try.prog 33 #[.slice S n cap, .agg #[.string t.1.1, .int .i64 t.1.2, .slice a (lenF t.2) c], stepV p pa pn pc] w (NodeEnd w (stepN (sgOf L) t p)) := by
  obtain ⟨kd, at_, many, sym⟩ := p
  obtain ⟨W0, hW0⟩ : ∃ W0, ((w.alloc (.cells #[.string t.1.1, .int .i64 t.1.2, .slice a (lenF t.2) c] 26)).alloc (.cells #[.int .i64 kd, .slice pa pn pc, .int .i64 at_, .int .i64 many, .int .i64 sym] 39)).alloc (.cells #[.string ⟨#[]⟩, .int .i64 0, .slice none 0 0] 26) = W0 := ⟨_, rfl⟩
  have hb0 : Below w.heap.size w W0 := by rw [← hW0]; exact ((alloc_below0 w _).alloc (by simp) _).alloc (by simp; omega) _
  have B0 : Box W0 w.heap.size 26 (tmC t a c) := by rw [← hW0]; exact ((Box.new w 26 _).over _).over _
  have B1 : Box W0 (w.heap.size + 1) 39 (stepC ⟨kd, at_, many, sym⟩ pa pn pc) := by rw [← hW0]; exact (box_new (by rw [World.size_alloc]) 39 _).over _
  have B2 : Box W0 (w.heap.size + 2) 26 (tmC ((⟨#[]⟩, 0), .nil) none 0) := by rw [← hW0]; exact box_new (by rw [World.size_alloc, World.size_alloc]) 26 _
  have hsz : W0.heap.size = w.heap.size + 3 := by rw [← hW0]; simp
  have HJ := hid (djoins_any S n cap L t a c W0 (hS.below hb0))
  have d0 := B0.v (k := 0) rfl; have d1 := B0.v (k := 1) rfl; have d2 := B0.v (k := 2) rfl
  have hlen := len_nodes t.2
  have hcc := hT.sizes.len; have hcm := hT.sizes.cap
  unfold maxLen at hcm
  have HB0 := hid hb0; have HX0 := hid B0; have HX1 := hid B1; have HX2 := hid B2; have HS := hid hS; have HT := hid hT; have HN := hid hn; have HG := hid hG; have HSZ := hid hsz
  clear hb0 B0 B1 B2 hS hT hn hG hsz
  go_enter Try.func33, Try.ntmps33
  go_upto_region 2 with (first | (go_at_call 45; refine HJ.out.mono ?_; rintro e w1 ⟨rfl, hb1⟩; have HB1 := hid hb1; clear hb1) | fail)
  clear hW0 d0 d1 d2
  have hst1 : NSt0 w t a c ⟨kd, at_, many, sym⟩ pa pn pc w1 := ⟨HB0.out.trans (HB1.out.mono HB0.out.size), HX0.out.below HB1.out, HX1.out.below HB1.out, HX2.out.below HB1.out, by have := HSZ.out; have := HB1.out.size; omega⟩
  have HST1 := hid hst1
  have s2 := hst1.x.v (k := 2) rfl
  have n2 := hst1.n.v (k := 2) rfl
  obtain ⟨g, hg⟩ : ∃ g, gathN (sgOf L) t = g := ⟨_, rfl⟩
  rw [hg]
  have HGG := hid hg
  clear hst1 hg
  go_cut [9] (fun v w' => v = .bool (inI at_ (lenF t.2)) ∧ w' = w1)
  case first =>
    by_cases h0 : 0 ≤ at_
    · by_cases h1 : at_ < (lenF t.2 : Int)
      · have e : inI at_ (lenF t.2) = true := by unfold inI; simp [h0, h1]
        go_wp2_with fail
        go_meet
        exact ⟨by rw [e] <;> rfl, rfl⟩
      · have e : inI at_ (lenF t.2) = false := by unfold inI; simp [h1]
        go_wp2_with fail
        go_meet
        exact ⟨by rw [e] <;> rfl, rfl⟩
    · have e : inI at_ (lenF t.2) = false := by unfold inI; simp [h0]
      go_wp2_with fail
      go_meet
      exact ⟨by rw [e] <;> rfl, rfl⟩
  case rest =>
    obtain ⟨rfl, rfl⟩ := hcut
    obtain ⟨i, hi⟩ : ∃ i, inI at_ (lenF t.2) = i := ⟨_, rfl⟩
    rw [hi]
    have HII := hid hi
    have HCl := hid (rclone_any t.1 t.2 a c wc (HT.out.below HST1.out.low))
    have n0 := HST1.out.n.v (k := 0) rfl; have n1 := HST1.out.n.v (k := 1) rfl
    clear hi s2
    go_upto_region 4 with (first | (go_at_call 34; refine HCl.out.mono ?_; rintro e w2 ⟨a', c', rfl, hR2, hb2⟩; have HR2 := hid hR2; have HB2 := hid hb2; clear hR2 hb2) | fail)
    obtain ⟨V, hV⟩ : ∃ V, w2.alloc (.cells #[.string t.1.1, .int .i64 t.1.2, .slice a' (lenF t.2) c'] 26) = V := ⟨_, rfl⟩
    rw [hV]
    have hst : NSt w t a c ⟨kd, at_, many, sym⟩ pa pn pc w2.heap.size a' c' V := by rw [← hV]; exact NSt.new HST1.out HB2.out HR2.out
    have HST := hid hst
    generalize w2.heap.size = Bo at HST ⊢
    clear hst n0 n1 n2 hV HR2 HB2 HCl HST1 HX0 HX1 HX2 HJ HB1
    have s0 := HST.out.x.v (k := 0) rfl
    have hk1 : kd = 3 := hk
    subst hk1
    clear hk
    have s2 := HST.out.x.v (k := 2) rfl
    have n1 := HST.out.n.v (k := 1) rfl; have n2 := HST.out.n.v (k := 2) rfl
    cases g
    · have o0 := HST.out.o.v (k := 0) rfl; have o1 := HST.out.o.v (k := 1) rfl; have o2 := HST.out.o.v (k := 2) rfl
      have z0 := HST.out.r.v (k := 0) rfl; have z1 := HST.out.r.v (k := 1) rfl; have z2 := HST.out.r.v (k := 2) rfl
      have f0 := HST.out.r.f 0; have f1 := HST.out.r.f 1; have f2 := HST.out.r.f 2
      go_wp2_with fail
      refine ret_term rfl rfl (sets3_box HST.out.r _ _ _) rfl rfl ?_
      exact HST.out.no (by unfold stepN; rw [if_neg (by simp), if_neg (by rw [HGG.out]; simp)])
    · cases i
      · have o0 := HST.out.o.v (k := 0) rfl; have o1 := HST.out.o.v (k := 1) rfl; have o2 := HST.out.o.v (k := 2) rfl
        have z0 := HST.out.r.v (k := 0) rfl; have z1 := HST.out.r.v (k := 1) rfl; have z2 := HST.out.r.v (k := 2) rfl
        have f0 := HST.out.r.f 0; have f1 := HST.out.r.f 1; have f2 := HST.out.r.f 2
        go_wp2_with fail
        refine ret_term rfl rfl (sets3_box HST.out.r _ _ _) rfl rfl ?_
        exact HST.out.no (by unfold stepN; rw [if_neg (by simp), if_neg (by rw [HII.out]; simp)])
      · obtain ⟨k, hk, hlt⟩ := inI_iff.1 HII.out
        have hk' : at_ = (k : Int) := hk
        subst hk'
        have hrt : stepN (sgOf L) t ⟨3, k, many, sym⟩ = swapN t ⟨3, k, many, sym⟩ := by unfold stepN; rw [if_neg (by simp), if_pos ⟨HGG.out, HII.out⟩, if_neg (by simp), if_neg (by simp), if_pos rfl]
        have HRT := hid hrt
        have hnn := HN.out
        have hlf : lenF t.2 ≤ 1048576 := by omega
        have hk0 : (0 : Int) ≤ (k : Int) := by omega
        have hkn : (k : Int) < (lenF t.2 : Int) := by omega
        have hw1 : IntKind.i64.wrap ((lenF t.2 : Int) - 1) = (lenF t.2 : Int) - 1 := IntWalk.i64_in _ (by constructor <;> omega)
        clear hrt hk hnn
        by_cases hla : (k : Int) = (lenF t.2 : Int) - 1
        · have hlb : ((k : Int) == (lenF t.2 : Int) - 1) = true := by simp [hla]
          have HLA := hid hla
          clear hla
          have o0 := HST.out.o.v (k := 0) rfl; have o1 := HST.out.o.v (k := 1) rfl; have o2 := HST.out.o.v (k := 2) rfl
          have z0 := HST.out.r.v (k := 0) rfl; have z1 := HST.out.r.v (k := 1) rfl; have z2 := HST.out.r.v (k := 2) rfl
          have f0 := HST.out.r.f 0; have f1 := HST.out.r.f 1; have f2 := HST.out.r.f 2
          go_wp2_with fail
          refine ret_term rfl rfl (sets3_box HST.out.r _ _ _) rfl rfl ?_
          exact HST.out.no (by rw [HRT.out]; unfold swapN; have hz : (kidsL t.2)[k + 1]? = none := List.getElem?_eq_none_iff.2 (by rw [kids_len]; have := HLA.out; omega); simp only [Int.toNat_natCast, hz]; split <;> simp_all)
        · have hlb : ((k : Int) == (lenF t.2 : Int) - 1) = false := by simp [hla]
          have hlt1 : k + 1 < lenF t.2 := by omega
          obtain ⟨bb, oo, rfl, hkk⟩ := HT.out.args.get (by omega)
          obtain ⟨y, a1, c1, l1, kd0⟩ := hkk.kid (k := k) hlt
          obtain ⟨z, a2, c2, l2, kd1⟩ := hkk.kid (k := k + 1) hlt1
          have hgy := kid_get kd0
          have hgz := kid_get kd1
          obtain ⟨Fy, hFy⟩ : ∃ Fy, mkF (layL (kidsL t.2) k 2 [(z, l2), (y, l1)]) = Fy := ⟨_, rfl⟩
          have HRS : Hid (stepN (sgOf L) t ⟨3, k, many, sym⟩ = some ((t.1, Fy), ⟨3, k, 0, 0⟩)) := by
            show _ = _
            rw [HRT.out]
            unfold swapN
            simp only [Int.toNat_natCast, hgy, hgz, hFy]
          have HKS : Hid (kidsL (setF (k + 1) (setF k t.2 (z, l2)) (y, l1)) = kidsL Fy) := by show _ = _; rw [swap_kids hgy hgz, ← hFy, kids_mk]
          obtain ⟨g, hg, hsw⟩ := HST.out.sw (by omega)
          subst hg
          have HSW := hid hsw
          have hbl : bb < w.heap.size := World.block_lt_of_cell? w _ kd0.name
          have HNE : Hid (Bo ≠ g ∧ w.heap.size ≠ g ∧ w.heap.size + 1 ≠ g ∧ bb ≠ g) := ⟨hsw.ne, by have := hsw.row.lo; omega, by have := hsw.row.lo; omega, by have := hsw.row.lo; omega⟩
          have HCZ : Hid (∀ W, Below V.heap.size V W → Calls Try.prog 34 #[.agg #[.string z.1, .int .i64 z.2, .slice a2 (lenF l2) c2]] W fun e w' => ∃ a' c', e = .returned (.agg #[.string z.1, .int .i64 z.2, .slice a' (lenF l2) c']) ∧ RowTm W.heap.size w' z a' c' l2 ∧ Below W.heap.size W w') := fun W hW => rclone_any z l2 a2 c2 W ((kd1.below (HST.out.low)).at_.below hW)
          have HCY : Hid (∀ W, Below w.heap.size w W → Calls Try.prog 34 #[.agg #[.string y.1, .int .i64 y.2, .slice a1 (lenF l1) c1]] W fun e w' => ∃ a' c', e = .returned (.agg #[.string y.1, .int .i64 y.2, .slice a' (lenF l1) c']) ∧ RowTm W.heap.size w' y a' c' l1 ∧ Below W.heap.size W w') := fun W hW => rclone_any y l1 a1 c1 W (kd0.below hW).at_
          have o2 := HST.out.o.v (k := 2) rfl
          have kdV := kd1.below HST.out.low
          have p0 := kdV.name; have p1 := kdV.sym; have p2 := kdV.list
          have HKD := hid kd0
          have hwk : IntKind.i64.wrap ((k : Int) + 1) = (k : Int) + 1 := IntWalk.i64_in _ (by constructor <;> omega)
          have hk1n : ((k : Int) + 1).toNat = k + 1 := by omega
          have hk10 : (0 : Int) ≤ (k : Int) + 1 := by omega
          have hk1l : (k : Int) + 1 < (lenF t.2 : Int) := by omega
          clear hla kd0 kd1 hgy hgz hFy hsw hbl kdV hkk
          go_wp2_with fail
          go_cut [9] (fun v w' => v = .bool true ∧ SwSt w t (some ⟨bb, oo, none⟩) c ⟨3, k, many, sym⟩ pa pn pc Bo g c' (setF k t.2 (z, l2)) w')
          case first =>
            go_region_held3 (fun w' => w'.cell? ⟨Bo, 2, none⟩ = some (.slice (some ⟨g, 0, none⟩) (lenF t.2) c') ∧ w'.cell? ⟨w.heap.size, 2, none⟩ = some (.slice (some ⟨bb, oo, none⟩) (lenF t.2) c) ∧ w'.cell? ⟨w.heap.size + 1, 2, none⟩ = some (.int .i64 k) ∧ w'.cell? ⟨bb, oo + (k + 1) * 3, none⟩ = some (.string z.1) ∧ w'.cell? ⟨bb, oo + (k + 1) * 3 + 1, none⟩ = some (.int .i64 z.2) ∧ w'.cell? ⟨bb, oo + (k + 1) * 3 + 2, none⟩ = some (.slice a2 (lenF l2) c2)) ((first | (go_split_ands; refine ⟨?_, ?_, ?_, ?_, ?_, ?_⟩ <;> ((with_reducible refine below_cell HB5.out _ _ ?_); assumption)) | (have hqq := HB5.out; clear hqq; go_split_ands; refine ⟨?_, ?_, ?_, ?_, ?_, ?_⟩ <;> (refine keep_sets HB5.out (by assumption) ?_; first | exact HNE.out.1 | exact HNE.out.2.1 | exact HNE.out.2.2.1 | exact HNE.out.2.2.2)) | go_keep | fail)) ((first | (go_at_call 34; (with_reducible refine Calls.mono (HCZ.out (World.drew V) (Below.refl _ V).drew) ?_); rintro e w5 ⟨a5, c5, rfl, hR5, hb5⟩; have HO5 : Hid (OwnTm false (fun q => V.heap.size ≤ q) w5 z a5 c5 l2) := hR5.own; have HB5 : Hid (Below V.heap.size V w5) := ((Below.refl _ V).drew).trans hb5; have hg5 := HSW.out.row.below HB5.out; obtain ⟨cur5, hcur5⟩ := hg5.blk; obtain ⟨qx, qa, qc, ql, kd5⟩ := hg5.kids.kids.kid (k := k) (by rw [HSW.out.len]; omega); have v0 := kd5.name; have v1 := kd5.sym; have v2 := kd5.list; rw [Nat.zero_add] at v0 v1 v2; have vf0 := row_frozen (i := k * 3) hcur5; have vf1 := row_frozen (i := k * 3 + 1) hcur5; have vf2 := row_frozen (i := k * 3 + 2) hcur5; clear hg5 hcur5 kd5 hR5 hb5) | fail))
            all_goals (go_wp2_with fail; go_meet)
            all_goals exact ⟨rfl, HSW.out.put HB5.out (by omega) HO5.out⟩
          case rest =>
            obtain ⟨rfl, hsw2⟩ := hcut
            obtain ⟨V2, rfl⟩ : ∃ V2, V2 = wc := ⟨_, rfl⟩
            have HCY2 : Hid (∀ W, Below V2.heap.size V2 W → Calls Try.prog 34 #[.agg #[.string y.1, .int .i64 y.2, .slice a1 (lenF l1) c1]] W fun e w' => ∃ a' c', e = .returned (.agg #[.string y.1, .int .i64 y.2, .slice a' (lenF l1) c']) ∧ RowTm W.heap.size w' y a' c' l1 ∧ Below W.heap.size W w') := fun W hW => HCY.out W (hsw2.low.trans (hW.mono hsw2.low.size))
            clear HSW HCZ n1 n2 s2 o2 p0 p1 p2 HST
            have HSW := hid hsw2
            have kdV := HKD.out.below hsw2.low
            have n2 := hsw2.n.v (k := 2) rfl
            have s2 := hsw2.x.v (k := 2) rfl
            have o2 := hsw2.o.v (k := 2) rfl
            have p0 := kdV.name; have p1 := kdV.sym; have p2 := kdV.list
            clear hsw2 kdV HCY HKD
            go_wp2_with fail
            go_cut [9] (fun v w' => v = .bool true ∧ SwSt w t (some ⟨bb, oo, none⟩) c ⟨3, k, many, sym⟩ pa pn pc Bo g c' (setF (k + 1) (setF k t.2 (z, l2)) (y, l1)) w')
            case first =>
              go_region_held3 (fun w' => w'.cell? ⟨Bo, 2, none⟩ = some (.slice (some ⟨g, 0, none⟩) (lenF t.2) c') ∧ w'.cell? ⟨w.heap.size, 2, none⟩ = some (.slice (some ⟨bb, oo, none⟩) (lenF t.2) c) ∧ w'.cell? ⟨w.heap.size + 1, 2, none⟩ = some (.int .i64 k) ∧ w'.cell? ⟨bb, oo + k * 3, none⟩ = some (.string y.1) ∧ w'.cell? ⟨bb, oo + k * 3 + 1, none⟩ = some (.int .i64 y.2) ∧ w'.cell? ⟨bb, oo + k * 3 + 2, none⟩ = some (.slice a1 (lenF l1) c1)) ((first | (go_split_ands; refine ⟨?_, ?_, ?_, ?_, ?_, ?_⟩ <;> ((with_reducible refine below_cell HB5.out _ _ ?_); assumption)) | (have hqq := HB5.out; clear hqq; go_split_ands; refine ⟨?_, ?_, ?_, ?_, ?_, ?_⟩ <;> (refine keep_sets HB5.out (by assumption) ?_; first | exact HNE.out.1 | exact HNE.out.2.1 | exact HNE.out.2.2.1 | exact HNE.out.2.2.2)) | go_keep | fail)) ((first | (go_at_call 34; (with_reducible refine Calls.mono (HCY2.out (World.drew V2) (Below.refl _ V2).drew) ?_); rintro e w5 ⟨a5, c5, rfl, hR5, hb5⟩; have HO5 : Hid (OwnTm false (fun q => V2.heap.size ≤ q) w5 y a5 c5 l1) := hR5.own; have HB5 : Hid (Below V2.heap.size V2 w5) := ((Below.refl _ V2).drew).trans hb5; have hg5 := HSW.out.row.below HB5.out; obtain ⟨cur5, hcur5⟩ := hg5.blk; obtain ⟨qx, qa, qc, ql, kd5⟩ := hg5.kids.kids.kid (k := (k + 1)) (by rw [HSW.out.len]; omega); have v0 := kd5.name; have v1 := kd5.sym; have v2 := kd5.list; rw [Nat.zero_add] at v0 v1 v2; have vf0 := row_frozen (i := (k + 1) * 3) hcur5; have vf1 := row_frozen (i := (k + 1) * 3 + 1) hcur5; have vf2 := row_frozen (i := (k + 1) * 3 + 2) hcur5; clear hg5 hcur5 kd5 hR5 hb5) | fail))
              all_goals (go_wp2_with fail; go_meet)
              all_goals exact ⟨rfl, HSW.out.put HB5.out (by omega) HO5.out⟩
            case rest =>
              obtain ⟨rfl, hsw3⟩ := hcut
              have hy := hsw3.done HKS.out
              have hlF : lenF Fy = lenF t.2 := by rw [← kids_len, ← HKS.out, kids_len]; exact hsw3.len
              have HY := hid hy
              have o0 := hy.o.v (k := 0) rfl; have o1 := hy.o.v (k := 1) rfl
              have HLF := hid hlF
              clear o2 n2 s2 p0 p1 p2
              have o2 := hsw3.o.v (k := 2) rfl
              have z0 := hy.r.v (k := 0) rfl; have z1 := hy.r.v (k := 1) rfl; have z2 := hy.r.v (k := 2) rfl
              have f0 := hy.r.f 0; have f1 := hy.r.f 1; have f2 := hy.r.f 2
              clear hy hsw3 hlF
              go_wp2_with fail
              refine ret_term rfl rfl (sets3_box HY.out.r _ _ _) rfl rfl ?_
              have := HY.out.yes HRS.out (x0 := .string t.1.1) (x1 := .int .i64 t.1.2) (x2 := .slice (some ⟨g, 0, none⟩) (lenF t.2) c')
              unfold tmC at this
              rw [show lenF ((t.1, Fy) : Tn).2 = lenF t.2 from HLF.out] at this
              exact this
end Go.Proofs.Ytokbgbbkopmngaa
/- The document's grow. -/
namespace Go.Proofs.Ytokbgbbkopmngaa
open Go.RowKit Go.Deep

/-- grow's boxes. -/
structure GSt (w : World) (t : Tn) (a : Option Addr) (c : Nat) (p : Sp) (pa : Option Addr) (pn pc Bo : Nat) (u : Int) (V : World) : Prop extends NSt0 w t a c p pa pn pc V where
  o : Box V Bo 26 #[.string ⟨#[]⟩, .int .i64 u, .slice none 0 0]
  far : w.heap.size + 2 < Bo
theorem node_fin {w W : World} (hl : Below w.heap.size w W) {y : Tn} {a : Option Addr} {c : Nat} (hO : OwnTm false (fun q => w.heap.size + 3 ≤ q) W y.1 a c y.2) {r : Option (Tn × Sp)} {q : Sp} (hr : r = some (y, q)) {x0 x1 x2 : Value} :
    NodeEnd w r (.returned (.tuple #[.agg (tmC y a c), .bool true])) (((W.setCell ⟨w.heap.size + 2, 0, none⟩ x0).setCell ⟨w.heap.size + 2, 1, none⟩ x1).setCell ⟨w.heap.size + 2, 2, none⟩ x2) := by
  subst hr
  refine ⟨y, a, c, rfl, fun s e => ?_, ?_⟩
  · cases e
    exact ⟨rfl, hO.keep (fun q hq hl => (sets3_fr (B := w.heap.size + 2) x0 x1 x2).same q hl (by omega))⟩
  · exact hl.trans ((sets3_fr (B := w.heap.size + 2) x0 x1 x2).below (fun k hk => by omega) hl.size)
theorem two_own {N : Nat} {w5 : World} {k1 k2 : Kv} {x : ByteArray × Int} (hN : N ≤ w5.heap.size) (hx : x.1.size ≤ maxLen) (h1 : OwnTm false (fun q => N ≤ q) w5 k1.x k1.a k1.c k1.l) (h2 : OwnTm false (fun q => N ≤ q) w5 k2.x k2.a k2.c k2.l) :
    OwnTm false (fun q => N ≤ q) (w5.alloc (.cells #[.string k1.x.1, .int .i64 k1.x.2, .slice k1.a (lenF k1.l) k1.c, .string k2.x.1, .int .i64 k2.x.2, .slice k2.a (lenF k2.l) k2.c] 26)) x (some ⟨w5.heap.size, 0, none⟩) 2 (mkF [k1.tn, k2.tn]) := by
  obtain ⟨W, hW⟩ : ∃ W, w5.alloc (.cells #[.string k1.x.1, .int .i64 k1.x.2, .slice k1.a (lenF k1.l) k1.c, .string k2.x.1, .int .i64 k2.x.2, .slice k2.a (lenF k2.l) k2.c] 26) = W := ⟨_, rfl⟩
  have hb : Below w5.heap.size w5 W := by rw [← hW]; exact alloc_below0 _ _
  have hB : Box W w5.heap.size 26 #[.string k1.x.1, .int .i64 k1.x.2, .slice k1.a (lenF k1.l) k1.c, .string k2.x.1, .int .i64 k2.x.2, .slice k2.a (lenF k2.l) k2.c] := by rw [← hW]; exact Box.new _ _ _
  rw [hW]
  have g1 := h1.below hb
  have g2 := h2.below hb
  refine ⟨⟨hx, Nat.le_refl _, by decide, by show 2 * 48 ≤ 140737488351232; decide⟩, .inr ⟨w5.heap.size, _, rfl, hN, hB, (fun e => by cases e), ?_⟩⟩
  exact ⟨⟨k1.a, k1.c, hB.v rfl, hB.v rfl, hB.v rfl, g1.sizes, g1.list⟩, ⟨k2.a, k2.c, hB.v rfl, hB.v rfl, hB.v rfl, g2.sizes, g2.list⟩, trivial⟩
theorem const_own {N : Nat} {w : World} {u : Int} : OwnTm false (fun q => N ≤ q) w (noB, u) none 0 .nil := ⟨⟨by show (0 : Nat) ≤ _; exact Nat.zero_le _, Nat.le_refl _, Nat.zero_le _, Nat.zero_le _⟩, .inl ⟨rfl, rfl⟩⟩
theorem node_no {w W : World} (hl : Below w.heap.size w W) {y : Tn} {a : Option Addr} {c : Nat} {r : Option (Tn × Sp)} (hr : r = none) {x0 x1 x2 : Value} :
    NodeEnd w r (.returned (.tuple #[.agg (tmC y a c), .bool false])) (((W.setCell ⟨w.heap.size + 2, 0, none⟩ x0).setCell ⟨w.heap.size + 2, 1, none⟩ x1).setCell ⟨w.heap.size + 2, 2, none⟩ x2) := by
  subst hr
  refine ⟨y, a, c, rfl, fun s e => ?_, ?_⟩
  · exact absurd e (by simp)
  · exact hl.trans ((sets3_fr (B := w.heap.size + 2) x0 x1 x2).below (fun k hk => by omega) hl.size)
set_option maxRecDepth 100000 in
set_option maxHeartbeats 4000000 in
theorem dgrow_any (S : Option Addr) (n cap : Nat) (L : List Sym) (t : Tn) (a : Option Addr) (c : Nat) (p : Sp) (pa : Option Addr) (pn pc : Nat) (w : World)
    (hS : SigAt w S n L) (hT : TmAt w t.1 a c t.2) (hn : nodesF t.2 ≤ 1048576) (hG : gathN (sgOf L) t = true → 2 ≤ lenF t.2) (hUJ : ∀ f u, (sgOf L).unit f = some u → (sgOf L).joins f = true) :
    Calls Try.prog 49 #[.slice S n cap, .agg #[.string t.1.1, .int .i64 t.1.2, .slice a (lenF t.2) c], stepV p pa pn pc] w (NodeEnd w (growN (sgOf L) t p)) := by
  obtain ⟨kd, at_, many, sym⟩ := p
  obtain ⟨W0, hW0⟩ : ∃ W0, ((w.alloc (.cells #[.string t.1.1, .int .i64 t.1.2, .slice a (lenF t.2) c] 26)).alloc (.cells #[.int .i64 kd, .slice pa pn pc, .int .i64 at_, .int .i64 many, .int .i64 sym] 39)).alloc (.cells #[.string ⟨#[]⟩, .int .i64 0, .slice none 0 0] 26) = W0 := ⟨_, rfl⟩
  have hb0 : Below w.heap.size w W0 := by rw [← hW0]; exact ((alloc_below0 w _).alloc (by simp) _).alloc (by simp; omega) _
  have B0 : Box W0 w.heap.size 26 (tmC t a c) := by rw [← hW0]; exact ((Box.new w 26 _).over _).over _
  have B1 : Box W0 (w.heap.size + 1) 39 (stepC ⟨kd, at_, many, sym⟩ pa pn pc) := by rw [← hW0]; exact (box_new (by rw [World.size_alloc]) 39 _).over _
  have B2 : Box W0 (w.heap.size + 2) 26 (tmC ((⟨#[]⟩, 0), .nil) none 0) := by rw [← hW0]; exact box_new (by rw [World.size_alloc, World.size_alloc]) 26 _
  have hsz : W0.heap.size = w.heap.size + 3 := by rw [← hW0]; simp
  have hst0 : NSt0 w t a c ⟨kd, at_, many, sym⟩ pa pn pc W0 := ⟨hb0, B0, B1, B2, by omega⟩
  have HU := hid (runit_any S n cap L sym W0 (hS.below hb0))
  have d4 := B1.v (k := 4) rfl
  have hlen := len_nodes t.2
  have hcc := hT.sizes.len; have hcm := hT.sizes.cap
  unfold maxLen at hcm
  have hlf : lenF t.2 ≤ 1048576 := by omega
  obtain ⟨ui, hui⟩ : ∃ ui, unitI L sym = ui := ⟨_, rfl⟩
  have HS := hid hS; have HT := hid hT; have HG := hid hG; have HST0 := hid hst0; have HUJ := hid hUJ
  clear hb0 B0 B1 B2 hS hT hn hG hsz hst0 hUJ hlen
  go_enter Try.func49, Try.ntmps49
  cases huo : unitOk L sym
  · have HNO : Hid (growN (sgOf L) t ⟨kd, at_, many, sym⟩ = none) := by
      show _ = _
      unfold growN
      unfold unitOk at huo
      cases hq : unitAt L sym with
      | none => simp [sgOf, hq]
      | some i => rw [hq] at huo; simp at huo
    have n0 := HST0.out.n.v (k := 0) rfl; have n1 := HST0.out.n.v (k := 1) rfl; have n2 := HST0.out.n.v (k := 2) rfl
    have z0 := HST0.out.r.v (k := 0) rfl; have z1 := HST0.out.r.v (k := 1) rfl; have z2 := HST0.out.r.v (k := 2) rfl
    have f0 := HST0.out.r.f 0; have f1 := HST0.out.r.f 1; have f2 := HST0.out.r.f 2
    go_wp2_with (first | (go_at_call 53; refine HU.out.mono ?_; rintro e w9 ⟨he, hw9⟩; unfold UnitRet at he; rw [hui, huo] at he; subst he; rw [hw9]; clear hw9) | fail)
    refine ret_term rfl rfl (sets3_box HST0.out.r _ _ _) rfl rfl ?_
    exact node_no HST0.out.low HNO.out
  · obtain ⟨u, hu⟩ : ∃ u, (sgOf L).unit sym = some u := by
      unfold unitOk at huo
      cases hq : unitAt L sym with
      | none => rw [hq] at huo; simp at huo
      | some i => exact ⟨i, by simp [sgOf, hq]⟩
    have hui2 : ui = u := by
      rw [← hui]
      unfold unitI
      simp only [sgOf, Option.map_eq_some_iff] at hu
      obtain ⟨i, hi, rfl⟩ := hu
      rw [hi]
    have HGR : Hid (growN (sgOf L) t ⟨kd, at_, many, sym⟩ = if many = 1 then (if 0 ≤ at_ ∧ at_ ≤ 1 then some (((noB, sym), mkF (layL [t] at_.toNat 0 [constT u])), ⟨4, at_, 0, 0⟩) else none) else if many = 0 then (if headed sym t = true ∧ 0 ≤ at_ ∧ at_ ≤ lenF t.2 then some ((t.1, mkF (layL (kidsL t.2) at_.toNat 0 [constT u])), ⟨4, at_, 0, 0⟩) else none) else none) := by show _ = _; unfold growN; rw [hu]
    have HUU := hid hu
    have HUI := hid hui
    clear hu
    subst hui2
    go_upto_region 5 with (first | (go_at_call 53; refine HU.out.mono ?_; rintro e w9 ⟨he, hw9⟩; unfold UnitRet at he; rw [hui, huo] at he; subst he; rw [hw9]; clear hw9) | fail)
    clear hW0 d4
    obtain ⟨V, hV⟩ : ∃ V, W0.alloc (.cells #[.string ⟨#[]⟩, .int .i64 ui, .slice none 0 0] 26) = V := ⟨_, rfl⟩
    rw [hV]
    have hbV : Below W0.heap.size W0 V := by rw [← hV]; exact alloc_below0 _ _
    have hst : GSt w t a c ⟨kd, at_, many, sym⟩ pa pn pc W0.heap.size ui V := { HST0.out.below hbV with o := by rw [← hV]; exact Box.new _ _ _, far := by have := HST0.out.sz; omega }
    generalize W0.heap.size = Bo at hst ⊢
    have HST := hid hst
    clear hst hbV hV hui huo
    have n0 := HST.out.n.v (k := 0) rfl; have n1 := HST.out.n.v (k := 1) rfl; have n2 := HST.out.n.v (k := 2) rfl
    have s2 := HST.out.x.v (k := 2) rfl; have s3 := HST.out.x.v (k := 3) rfl; have s4 := HST.out.x.v (k := 4) rfl
    have o0 := HST.out.o.v (k := 0) rfl; have o1 := HST.out.o.v (k := 1) rfl; have o2 := HST.out.o.v (k := 2) rfl
    have z0 := HST.out.r.v (k := 0) rfl; have z1 := HST.out.r.v (k := 1) rfl; have z2 := HST.out.r.v (k := 2) rfl
    have f0 := HST.out.r.f 0; have f1 := HST.out.r.f 1; have f2 := HST.out.r.f 2
    have HNE : Hid (w.heap.size ≠ w.heap.size + 2 ∧ w.heap.size + 1 ≠ w.heap.size + 2 ∧ Bo ≠ w.heap.size + 2) := ⟨by omega, by omega, by have := HST.out.far; omega⟩
    by_cases hm0 : many = 0
    · subst hm0
      have e1 : ((0 : Int) == 1) = false := by decide
      by_cases hh : headed sym t = true
      · have hx := head_eq hh
        obtain ⟨⟨nm, f⟩, F⟩ := t
        obtain ⟨rfl, rfl⟩ := Prod.mk.inj hx
        have ex : noB.toList.isEmpty = true := by decide +kernel
        by_cases h0 : 0 ≤ at_
        · by_cases h1 : at_ ≤ (lenF F : Int)
          · obtain ⟨k, hk⟩ : ∃ k : Nat, at_ = k := ⟨at_.toNat, by omega⟩
            subst hk
            have hG2 : 2 ≤ lenF F := HG.out (gath_app (sgOf L) (HUJ.out f ui HUU.out))
            obtain ⟨bb, oo, rfl, hkk⟩ := HT.out.args.get (by show 0 < lenF F; omega)
            obtain ⟨F', hF'⟩ : ∃ F', mkF (layL (kidsL F) k 0 [constT ui]) = F' := ⟨_, rfl⟩
            have HRS : Hid (growN (sgOf L) ((noB, f), F) ⟨kd, k, 0, f⟩ = some (((noB, f), F'), ⟨4, k, 0, 0⟩)) := by
              show _ = _
              rw [HGR.out, if_neg (by decide), if_pos rfl, if_pos ⟨hh, h0, h1⟩]
              simp only [Int.toNat_natCast, hF']
            have HLD : Hid (∀ W, Below V.heap.size V W → Box W V.heap.size 26 #[.string ⟨#[]⟩, .int .i64 ui, .slice none 0 0] → Calls Try.prog 46 #[.slice (some ⟨bb, oo, none⟩) (lenF F) c, .int .i64 k, .int .i64 0, .slice (some ⟨V.heap.size, 0, none⟩) 1 1] W fun e w' => ∃ a5 c5, e = .returned (.slice a5 (lenF F') c5) ∧ OwnTm false (fun q => W.heap.size ≤ q) w' (noB, f) a5 c5 F' ∧ Below W.heap.size W w') := fun W hW hB4 => by
              have hbW : Below w.heap.size w W := HST.out.low.trans (hW.mono HST.out.low.size)
              have hX : ArgsAt W (some ⟨V.heap.size, 0, none⟩) (.node 0 0 (⟨#[]⟩, ui) .nil .nil) := .inr ⟨V.heap.size, 0, rfl, ⟨none, 0, hB4.v rfl, hB4.v rfl, hB4.v rfl, ⟨by show (0 : Nat) ≤ _; exact Nat.zero_le _, Nat.le_refl _, Nat.zero_le _, Nat.zero_le _⟩, .inl rfl⟩, trivial⟩
              have h0' := dlaid_any bb oo F _ c k 0 (some ⟨V.heap.size, 0, none⟩) 1 W (kids_below hkk hbW) hX (by omega) hcc (by unfold maxLen; omega) hlf (by simp [lenF])
              simp only [lenF, kidsL, Nat.zero_add] at h0'
              refine Calls.mono h0' ?_
              intro e w' h
              have := ld_term (x := (noB, f)) h (Nat.zero_le _) (by unfold layL; simp only [List.length_append, List.length_take, List.length_drop, List.length_cons, List.length_nil, kids_len]; have : lenF F ≤ 1048576 := hlf; omega)
              rw [show mkF (layL (kidsL F) k 0 [((⟨#[]⟩, ui), .nil)]) = F' from hF'] at this
              exact this
            clear hF' hkk
            go_wp2_with fail
            go_cut [7] (fun v w' => v = .bool true ∧ ∃ a5 c5 W, Below w.heap.size w W ∧ OwnTm false (fun q => w.heap.size + 3 ≤ q) W (noB, f) a5 c5 F' ∧ Box W (w.heap.size + 2) 26 (tmC ((⟨#[]⟩, 0), .nil) none 0) ∧ w' = ((W.setCell ⟨w.heap.size + 2, 0, none⟩ (.string ⟨#[]⟩)).setCell ⟨w.heap.size + 2, 1, none⟩ (.int .i64 f)).setCell ⟨w.heap.size + 2, 2, none⟩ (.slice a5 (lenF F') c5))
            case first =>
              go_region_held3 (fun w' => w'.cell? ⟨w.heap.size, 1, none⟩ = some (.int .i64 f) ∧ w'.cell? ⟨w.heap.size, 2, none⟩ = some (.slice (some ⟨bb, oo, none⟩) (lenF F) c) ∧ w'.cell? ⟨w.heap.size + 1, 2, none⟩ = some (.int .i64 k) ∧ w'.cell? ⟨Bo, 0, none⟩ = some (.string ⟨#[]⟩) ∧ w'.cell? ⟨Bo, 1, none⟩ = some (.int .i64 ui) ∧ w'.cell? ⟨Bo, 2, none⟩ = some (.slice none 0 0)) ((first | (go_split_ands; refine ⟨?_, ?_, ?_, ?_, ?_, ?_⟩ <;> ((with_reducible refine below_cell HB5.out _ _ ?_); assumption)) | (have hqq := HB5.out; clear hqq; go_split_ands; refine ⟨?_, ?_, ?_, ?_, ?_, ?_⟩ <;> (refine keep_sets (n := 0) HB5.out (by assumption) ?_; first | exact HNE.out.1 | exact HNE.out.2.1 | exact HNE.out.2.2)) | (go_split_ands; refine ⟨?_, ?_, ?_, ?_, ?_, ?_⟩ <;> (refine below_cell ((Below.refl _ V).alloc (Nat.le_refl _) _) _ _ ?_; assumption)) | go_keep | fail)) ((first | (go_at_call 46; refine Calls.mono (HLD.out (World.drew (World.alloc V (.cells #[.string ⟨#[]⟩, .int .i64 ui, .slice none 0 0] 26))) ((Below.refl _ V).alloc (Nat.le_refl _) _).drew (Box.new V 26 _)) ?_; rintro e w5 ⟨a5, c5, rfl, hO5, hb5⟩; have HO5 : Hid (OwnTm false (fun q => V.heap.size ≤ q) w5 (noB, f) a5 c5 F') := hO5.mono (fun q _ hq => by have hq : (World.drew (World.alloc V (.cells #[.string ⟨#[]⟩, .int .i64 ui, .slice none 0 0] 26))).heap.size ≤ q := hq; rw [show (World.drew (World.alloc V (.cells #[.string ⟨#[]⟩, .int .i64 ui, .slice none 0 0] 26))).heap.size = V.heap.size + 1 from World.size_alloc _ _] at hq; omega); have HB5 : Hid (Below V.heap.size V w5) := (((Below.refl _ V).alloc (Nat.le_refl _) _).drew).trans (hb5.mono (by show _ ≤ (V.alloc _).heap.size; rw [World.size_alloc]; omega)); have X5 := HST.out.r.below HB5.out; have y0 := X5.v (k := 0) rfl; have y1 := X5.v (k := 1) rfl; have y2 := X5.v (k := 2) rfl; have yf0 := X5.f 0; have yf1 := X5.f 1; have yf2 := X5.f 2; clear X5 hO5 hb5) | fail))
              all_goals (go_wp2_with fail; go_meet)
              all_goals exact ⟨rfl, a5, c5, w5, HST.out.low.trans (HB5.out.mono HST.out.low.size), HO5.out.mono (fun q _ hq => by have := HST.out.sz; omega), HST.out.r.below HB5.out, rfl⟩
            case rest =>
              obtain ⟨rfl, a5, c5, W, hl5, hO5, hr5, rfl⟩ := hcut
              have HL5 := hid hl5; have HO5 := hid hO5; have HR5 := hid hr5
              clear hl5 hO5 hr5
              go_wp2_with fail
              refine ret_term rfl rfl (sets3_box HR5.out _ _ _) rfl rfl ?_
              exact node_fin (y := ((noB, f), F')) HL5.out HO5.out HRS.out
          · have HNO : Hid (growN (sgOf L) ((noB, f), F) ⟨kd, at_, 0, f⟩ = none) := by show _ = _; rw [HGR.out, if_neg (by decide), if_pos rfl, if_neg (fun h => h1 h.2.2)]
            go_wp2_with fail
            refine ret_term rfl rfl (sets3_box HST.out.r _ _ _) rfl rfl ?_
            exact node_no (y := ((noB, f), F)) (a := a) (c := c) HST.out.low HNO.out
        · have HNO : Hid (growN (sgOf L) ((noB, f), F) ⟨kd, at_, 0, f⟩ = none) := by show _ = _; rw [HGR.out, if_neg (by decide), if_pos rfl, if_neg (fun h => h0 h.2.1)]
          go_wp2_with fail
          refine ret_term rfl rfl (sets3_box HST.out.r _ _ _) rfl rfl ?_
          exact node_no (y := ((noB, f), F)) (a := a) (c := c) HST.out.low HNO.out
      · have HNO : Hid (growN (sgOf L) t ⟨kd, at_, 0, sym⟩ = none) := by show _ = _; rw [HGR.out, if_neg (by decide), if_pos rfl, if_neg (fun h => hh h.1)]
        cases hx : t.1.1.toList.isEmpty
        · go_wp2_with fail
          refine ret_term rfl rfl (sets3_box HST.out.r _ _ _) rfl rfl ?_
          exact node_no HST.out.low HNO.out
        · have hs : (t.1.2 == sym) = false := by
            cases hs : (t.1.2 == sym)
            · rfl
            · exact absurd (by unfold headed noName; rw [hx, hs]; rfl) hh
          go_wp2_with fail
          refine ret_term rfl rfl (sets3_box HST.out.r _ _ _) rfl rfl ?_
          exact node_no HST.out.low HNO.out
    · have em0 : (many == 0) = false := by simp [hm0]
      by_cases hm1 : many = 1
      · subst hm1
        by_cases h0 : at_ = 0
        · subst h0
          have HCl : Hid (∀ W, Below V.heap.size V W → Calls Try.prog 34 #[.agg #[.string t.1.1, .int .i64 t.1.2, .slice a (lenF t.2) c]] W fun e w' => ∃ a' c', e = .returned (.agg #[.string t.1.1, .int .i64 t.1.2, .slice a' (lenF t.2) c']) ∧ RowTm W.heap.size w' t.1 a' c' t.2 ∧ Below W.heap.size W w') := fun W hW => rclone_any t.1 t.2 a c W ((HT.out.below HST.out.low).below hW)
          have HRS : Hid (growN (sgOf L) t ⟨kd, 0, 1, sym⟩ = some (((noB, sym), mkF [constT ui, t]), ⟨4, 0, 0, 0⟩)) := by show _ = _; rw [HGR.out, if_pos rfl, if_pos (by decide)]; rfl
          go_wp2_with fail
          go_cut [7] (fun v w' => v = .bool true ∧ ∃ c5 W a5, Below w.heap.size w W ∧ OwnTm false (fun q => w.heap.size + 3 ≤ q) W (noB, sym) (some ⟨a5, 0, none⟩) c5 (mkF [constT ui, t]) ∧ c5 = 2 ∧ Box W (w.heap.size + 2) 26 (tmC ((⟨#[]⟩, 0), .nil) none 0) ∧ w' = ((W.setCell ⟨w.heap.size + 2, 0, none⟩ (.string ⟨#[]⟩)).setCell ⟨w.heap.size + 2, 1, none⟩ (.int .i64 sym)).setCell ⟨w.heap.size + 2, 2, none⟩ (.slice (some ⟨a5, 0, none⟩) 2 2))
          case first =>
            go_region_held3 (fun w' => w'.cell? ⟨w.heap.size + 1, 4, none⟩ = some (.int .i64 sym) ∧ w'.cell? ⟨w.heap.size, 0, none⟩ = some (.string t.1.1) ∧ w'.cell? ⟨w.heap.size, 1, none⟩ = some (.int .i64 t.1.2) ∧ w'.cell? ⟨w.heap.size, 2, none⟩ = some (.slice a (lenF t.2) c) ∧ w'.cell? ⟨Bo, 0, none⟩ = some (.string ⟨#[]⟩) ∧ w'.cell? ⟨Bo, 1, none⟩ = some (.int .i64 ui) ∧ w'.cell? ⟨Bo, 2, none⟩ = some (.slice none 0 0)) ((first | (go_split_ands; refine ⟨?_, ?_, ?_, ?_, ?_, ?_, ?_⟩ <;> ((with_reducible refine below_cell HB5.out _ _ ?_); assumption)) | (have hqq := HB5.out; clear hqq; go_split_ands; refine ⟨?_, ?_, ?_, ?_, ?_, ?_, ?_⟩ <;> ((with_reducible refine below_cell (HB5.out.alloc HB5.out.size (.cells #[.string ⟨#[]⟩, .int .i64 ui, .slice none 0 0, .string t.1.1, .int .i64 t.1.2, .slice a5 (lenF t.2) c5] 26)) _ _ ?_); assumption)) | (have hqq := HB5.out; clear hqq; go_split_ands; refine ⟨?_, ?_, ?_, ?_, ?_, ?_, ?_⟩ <;> (refine keep_sets (n := 0) (HB5.out.alloc HB5.out.size (.cells #[.string ⟨#[]⟩, .int .i64 ui, .slice none 0 0, .string t.1.1, .int .i64 t.1.2, .slice a5 (lenF t.2) c5] 26)) (by assumption) ?_; first | exact HNE.out.1 | exact HNE.out.2.1 | exact HNE.out.2.2)) | go_keep | fail)) ((first | (go_at_call 34; (with_reducible refine Calls.mono (HCl.out (World.drew V) (Below.refl _ V).drew) ?_); rintro e w5 ⟨a5, c5, rfl, hR5, hb5⟩; have HO5 : Hid (OwnTm false (fun q => V.heap.size ≤ q) w5 t.1 a5 c5 t.2) := hR5.own; have HB5 : Hid (Below V.heap.size V w5) := ((Below.refl _ V).drew).trans hb5; have X5 := HST.out.r.below (HB5.out.alloc HB5.out.size (.cells #[.string ⟨#[]⟩, .int .i64 ui, .slice none 0 0, .string t.1.1, .int .i64 t.1.2, .slice a5 (lenF t.2) c5] 26)); have y0 := X5.v (k := 0) rfl; have y1 := X5.v (k := 1) rfl; have y2 := X5.v (k := 2) rfl; have yf0 := X5.f 0; have yf1 := X5.f 1; have yf2 := X5.f 2; clear X5 hR5 hb5) | fail))
            all_goals (go_wp2_with fail; go_meet)
            all_goals
              have hb6 : Below V.heap.size V (w5.alloc (.cells #[.string ⟨#[]⟩, .int .i64 ui, .slice none 0 0, .string t.1.1, .int .i64 t.1.2, .slice a5 (lenF t.2) c5] 26)) := HB5.out.alloc HB5.out.size _
              have hsz5 := HB5.out.size
              have hsz := HST.out.sz
              exact ⟨rfl, 2, _, w5.heap.size, HST.out.low.trans (hb6.mono HST.out.low.size), two_own (k1 := ⟨(noB, ui), .nil, none, 0⟩) (k2 := ⟨t.1, t.2, a5, c5⟩) (by omega) (Nat.zero_le _) const_own (HO5.out.mono (fun q _ hq => by omega)), rfl, HST.out.r.below hb6, rfl⟩
          case rest =>
            obtain ⟨rfl, c5, W, a5, hl5, hO5, rfl, hr5, rfl⟩ := hcut
            have HL5 := hid hl5; have HO5 := hid hO5; have HR5 := hid hr5
            clear hl5 hO5 hr5
            go_wp2_with fail
            refine ret_term rfl rfl (sets3_box HR5.out _ _ _) rfl rfl ?_
            exact node_fin (y := ((noB, sym), mkF [constT ui, t])) HL5.out HO5.out HRS.out
        · have ea0 : (at_ == 0) = false := by simp [h0]
          by_cases h1 : at_ = 1
          · subst h1
            have HCl : Hid (∀ W, Below V.heap.size V W → Calls Try.prog 34 #[.agg #[.string t.1.1, .int .i64 t.1.2, .slice a (lenF t.2) c]] W fun e w' => ∃ a' c', e = .returned (.agg #[.string t.1.1, .int .i64 t.1.2, .slice a' (lenF t.2) c']) ∧ RowTm W.heap.size w' t.1 a' c' t.2 ∧ Below W.heap.size W w') := fun W hW => rclone_any t.1 t.2 a c W ((HT.out.below HST.out.low).below hW)
            have HRS : Hid (growN (sgOf L) t ⟨kd, 1, 1, sym⟩ = some (((noB, sym), mkF [t, constT ui]), ⟨4, 1, 0, 0⟩)) := by show _ = _; rw [HGR.out, if_pos rfl, if_pos (by decide)]; rfl
            go_wp2_with fail
            go_cut [7] (fun v w' => v = .bool true ∧ ∃ c5 W a5, Below w.heap.size w W ∧ OwnTm false (fun q => w.heap.size + 3 ≤ q) W (noB, sym) (some ⟨a5, 0, none⟩) c5 (mkF [t, constT ui]) ∧ c5 = 2 ∧ Box W (w.heap.size + 2) 26 (tmC ((⟨#[]⟩, 0), .nil) none 0) ∧ w' = ((W.setCell ⟨w.heap.size + 2, 0, none⟩ (.string ⟨#[]⟩)).setCell ⟨w.heap.size + 2, 1, none⟩ (.int .i64 sym)).setCell ⟨w.heap.size + 2, 2, none⟩ (.slice (some ⟨a5, 0, none⟩) 2 2))
            case first =>
              go_region_held3 (fun w' => w'.cell? ⟨w.heap.size + 1, 4, none⟩ = some (.int .i64 sym) ∧ w'.cell? ⟨w.heap.size, 0, none⟩ = some (.string t.1.1) ∧ w'.cell? ⟨w.heap.size, 1, none⟩ = some (.int .i64 t.1.2) ∧ w'.cell? ⟨w.heap.size, 2, none⟩ = some (.slice a (lenF t.2) c) ∧ w'.cell? ⟨Bo, 0, none⟩ = some (.string ⟨#[]⟩) ∧ w'.cell? ⟨Bo, 1, none⟩ = some (.int .i64 ui) ∧ w'.cell? ⟨Bo, 2, none⟩ = some (.slice none 0 0)) ((first | (go_split_ands; refine ⟨?_, ?_, ?_, ?_, ?_, ?_, ?_⟩ <;> ((with_reducible refine below_cell HB5.out _ _ ?_); assumption)) | (have hqq := HB5.out; clear hqq; go_split_ands; refine ⟨?_, ?_, ?_, ?_, ?_, ?_, ?_⟩ <;> ((with_reducible refine below_cell (HB5.out.alloc HB5.out.size (.cells #[.string t.1.1, .int .i64 t.1.2, .slice a5 (lenF t.2) c5, .string ⟨#[]⟩, .int .i64 ui, .slice none 0 0] 26)) _ _ ?_); assumption)) | (have hqq := HB5.out; clear hqq; go_split_ands; refine ⟨?_, ?_, ?_, ?_, ?_, ?_, ?_⟩ <;> (refine keep_sets (n := 0) (HB5.out.alloc HB5.out.size (.cells #[.string t.1.1, .int .i64 t.1.2, .slice a5 (lenF t.2) c5, .string ⟨#[]⟩, .int .i64 ui, .slice none 0 0] 26)) (by assumption) ?_; first | exact HNE.out.1 | exact HNE.out.2.1 | exact HNE.out.2.2)) | go_keep | fail)) ((first | (go_at_call 34; (with_reducible refine Calls.mono (HCl.out (World.drew V) (Below.refl _ V).drew) ?_); rintro e w5 ⟨a5, c5, rfl, hR5, hb5⟩; have HO5 : Hid (OwnTm false (fun q => V.heap.size ≤ q) w5 t.1 a5 c5 t.2) := hR5.own; have HB5 : Hid (Below V.heap.size V w5) := ((Below.refl _ V).drew).trans hb5; have X5 := HST.out.r.below (HB5.out.alloc HB5.out.size (.cells #[.string t.1.1, .int .i64 t.1.2, .slice a5 (lenF t.2) c5, .string ⟨#[]⟩, .int .i64 ui, .slice none 0 0] 26)); have y0 := X5.v (k := 0) rfl; have y1 := X5.v (k := 1) rfl; have y2 := X5.v (k := 2) rfl; have yf0 := X5.f 0; have yf1 := X5.f 1; have yf2 := X5.f 2; clear X5 hR5 hb5) | fail))
              all_goals (go_wp2_with fail; go_meet)
              all_goals
                have hb6 : Below V.heap.size V (w5.alloc (.cells #[.string t.1.1, .int .i64 t.1.2, .slice a5 (lenF t.2) c5, .string ⟨#[]⟩, .int .i64 ui, .slice none 0 0] 26)) := HB5.out.alloc HB5.out.size _
                have hsz5 := HB5.out.size
                have hsz := HST.out.sz
                exact ⟨rfl, 2, _, w5.heap.size, HST.out.low.trans (hb6.mono HST.out.low.size), two_own (k1 := ⟨t.1, t.2, a5, c5⟩) (k2 := ⟨(noB, ui), .nil, none, 0⟩) (by omega) (Nat.zero_le _) (HO5.out.mono (fun q _ hq => by omega)) const_own, rfl, HST.out.r.below hb6, rfl⟩
            case rest =>
              obtain ⟨rfl, c5, W, a5, hl5, hO5, rfl, hr5, rfl⟩ := hcut
              have HL5 := hid hl5; have HO5 := hid hO5; have HR5 := hid hr5
              clear hl5 hO5 hr5
              go_wp2_with fail
              refine ret_term rfl rfl (sets3_box HR5.out _ _ _) rfl rfl ?_
              exact node_fin (y := ((noB, sym), mkF [t, constT ui])) HL5.out HO5.out HRS.out
          · have ea1 : (at_ == 1) = false := by simp [h1]
            have HNO : Hid (growN (sgOf L) t ⟨kd, at_, 1, sym⟩ = none) := by show _ = _; rw [HGR.out, if_pos rfl, if_neg (fun h => by omega)]
            go_wp2_with fail
            refine ret_term rfl rfl (sets3_box HST.out.r _ _ _) rfl rfl ?_
            exact node_no HST.out.low HNO.out
      · have em1 : (many == 1) = false := by simp [hm1]
        have HNO : Hid (growN (sgOf L) t ⟨kd, at_, many, sym⟩ = none) := by show _ = _; rw [HGR.out, if_neg hm1, if_neg hm0]
        go_wp2_with fail
        refine ret_term rfl rfl (sets3_box HST.out.r _ _ _) rfl rfl ?_
        exact node_no HST.out.low HNO.out
end Go.Proofs.Ytokbgbbkopmngaa
/- The document's node, grow. -/
namespace Go.Proofs.Ytokbgbbkopmngaa
open Go.RowKit Go.Deep

set_option maxRecDepth 100000 in
set_option maxHeartbeats 4000000 in
theorem dnode_grow (S : Option Addr) (n cap : Nat) (L : List Sym) (t : Tn) (a : Option Addr) (c : Nat) (p : Sp) (pa : Option Addr) (pn pc : Nat) (w : World)
    (hS : SigAt w S n L) (hT : TmAt w t.1 a c t.2) (hn : nodesF t.2 ≤ 1048576) (hG : gathN (sgOf L) t = true → 2 ≤ lenF t.2) (hUJ : ∀ f u, (sgOf L).unit f = some u → (sgOf L).joins f = true) (hk : p.kind = 5) :
    Calls Try.prog 33 #[.slice S n cap, .agg #[.string t.1.1, .int .i64 t.1.2, .slice a (lenF t.2) c], stepV p pa pn pc] w (NodeEnd w (stepN (sgOf L) t p)) := by
  obtain ⟨kd, at_, many, sym⟩ := p
  obtain ⟨W0, hW0⟩ : ∃ W0, ((w.alloc (.cells #[.string t.1.1, .int .i64 t.1.2, .slice a (lenF t.2) c] 26)).alloc (.cells #[.int .i64 kd, .slice pa pn pc, .int .i64 at_, .int .i64 many, .int .i64 sym] 39)).alloc (.cells #[.string ⟨#[]⟩, .int .i64 0, .slice none 0 0] 26) = W0 := ⟨_, rfl⟩
  have hb0 : Below w.heap.size w W0 := by rw [← hW0]; exact ((alloc_below0 w _).alloc (by simp) _).alloc (by simp; omega) _
  have B0 : Box W0 w.heap.size 26 (tmC t a c) := by rw [← hW0]; exact ((Box.new w 26 _).over _).over _
  have B1 : Box W0 (w.heap.size + 1) 39 (stepC ⟨kd, at_, many, sym⟩ pa pn pc) := by rw [← hW0]; exact (box_new (by rw [World.size_alloc]) 39 _).over _
  have B2 : Box W0 (w.heap.size + 2) 26 (tmC ((⟨#[]⟩, 0), .nil) none 0) := by rw [← hW0]; exact box_new (by rw [World.size_alloc, World.size_alloc]) 26 _
  have hsz : W0.heap.size = w.heap.size + 3 := by rw [← hW0]; simp
  have HJ := hid (djoins_any S n cap L t a c W0 (hS.below hb0))
  have d0 := B0.v (k := 0) rfl; have d1 := B0.v (k := 1) rfl; have d2 := B0.v (k := 2) rfl
  have hlen := len_nodes t.2
  have hcc := hT.sizes.len; have hcm := hT.sizes.cap
  unfold maxLen at hcm
  have HB0 := hid hb0; have HX0 := hid B0; have HX1 := hid B1; have HX2 := hid B2; have HS := hid hS; have HT := hid hT; have HN := hid hn; have HG := hid hG; have HSZ := hid hsz
  clear hb0 B0 B1 B2 hS hT hn hG hsz
  go_enter Try.func33, Try.ntmps33
  go_upto_region 2 with (first | (go_at_call 45; refine HJ.out.mono ?_; rintro e w1 ⟨rfl, hb1⟩; have HB1 := hid hb1; clear hb1) | fail)
  clear hW0 d0 d1 d2
  have hst1 : NSt0 w t a c ⟨kd, at_, many, sym⟩ pa pn pc w1 := ⟨HB0.out.trans (HB1.out.mono HB0.out.size), HX0.out.below HB1.out, HX1.out.below HB1.out, HX2.out.below HB1.out, by have := HSZ.out; have := HB1.out.size; omega⟩
  have HST1 := hid hst1
  have s2 := hst1.x.v (k := 2) rfl
  have n2 := hst1.n.v (k := 2) rfl
  obtain ⟨g, hg⟩ : ∃ g, gathN (sgOf L) t = g := ⟨_, rfl⟩
  rw [hg]
  have HGG := hid hg
  clear hst1 hg
  go_cut [9] (fun v w' => v = .bool (inI at_ (lenF t.2)) ∧ w' = w1)
  case first =>
    by_cases h0 : 0 ≤ at_
    · by_cases h1 : at_ < (lenF t.2 : Int)
      · have e : inI at_ (lenF t.2) = true := by unfold inI; simp [h0, h1]
        go_wp2_with fail
        go_meet
        exact ⟨by rw [e] <;> rfl, rfl⟩
      · have e : inI at_ (lenF t.2) = false := by unfold inI; simp [h1]
        go_wp2_with fail
        go_meet
        exact ⟨by rw [e] <;> rfl, rfl⟩
    · have e : inI at_ (lenF t.2) = false := by unfold inI; simp [h0]
      go_wp2_with fail
      go_meet
      exact ⟨by rw [e] <;> rfl, rfl⟩
  case rest =>
    obtain ⟨rfl, rfl⟩ := hcut
    obtain ⟨i, hi⟩ : ∃ i, inI at_ (lenF t.2) = i := ⟨_, rfl⟩
    rw [hi]
    have HII := hid hi
    have HCl := hid (rclone_any t.1 t.2 a c wc (HT.out.below HST1.out.low))
    have n0 := HST1.out.n.v (k := 0) rfl; have n1 := HST1.out.n.v (k := 1) rfl
    clear hi s2
    go_upto_region 4 with (first | (go_at_call 34; refine HCl.out.mono ?_; rintro e w2 ⟨a', c', rfl, hR2, hb2⟩; have HR2 := hid hR2; have HB2 := hid hb2; clear hR2 hb2) | fail)
    obtain ⟨V, hV⟩ : ∃ V, w2.alloc (.cells #[.string t.1.1, .int .i64 t.1.2, .slice a' (lenF t.2) c'] 26) = V := ⟨_, rfl⟩
    rw [hV]
    have hst : NSt w t a c ⟨kd, at_, many, sym⟩ pa pn pc w2.heap.size a' c' V := by rw [← hV]; exact NSt.new HST1.out HB2.out HR2.out
    have HST := hid hst
    generalize w2.heap.size = Bo at HST ⊢
    clear hst n0 n1 n2 hV HR2 HB2 HCl HST1 HX0 HX1 HX2 HJ HB1
    have s0 := HST.out.x.v (k := 0) rfl
    have hk1 : kd = 5 := hk
    have HUJ := hid hUJ
    subst hk1
    clear hk
    have n0 := HST.out.n.v (k := 0) rfl; have n1 := HST.out.n.v (k := 1) rfl; have n2 := HST.out.n.v (k := 2) rfl
    have s1 := HST.out.x.v (k := 1) rfl; have s2 := HST.out.x.v (k := 2) rfl; have s3 := HST.out.x.v (k := 3) rfl; have s4 := HST.out.x.v (k := 4) rfl
    have HGw := hid (dgrow_any S n cap L t a c ⟨5, at_, many, sym⟩ pa pn pc V (HS.out.below HST.out.low) (HT.out.below HST.out.low) HN.out HG.out HUJ.out)
    have HSE : Hid (stepN (sgOf L) t ⟨5, at_, many, sym⟩ = growN (sgOf L) t ⟨5, at_, many, sym⟩) := by show _ = _; unfold stepN; rw [if_pos rfl]
    obtain ⟨r, hr⟩ : ∃ r, growN (sgOf L) t ⟨5, at_, many, sym⟩ = r := ⟨_, rfl⟩
    rw [hr] at HGw HSE
    clear hr
    go_wp2_with fail
    refine HGw.out.mono ?_
    rintro e w5 ⟨y, a5, c5, rfl, hy5, hb5⟩
    have X5 := HST.out.r.below hb5
    have HX5 := hid X5
    have z0 := X5.v (k := 0) rfl; have z1 := X5.v (k := 1) rfl; have z2 := X5.v (k := 2) rfl
    have f0 := X5.f 0; have f1 := X5.f 1; have f2 := X5.f 2
    have HB5 := hid hb5; have HY5 := hid hy5
    clear X5 hb5 hy5 n0 n1 n2 s0 s1 s2 s3 s4
    go_wp2_with fail
    refine ret_term rfl rfl (sets3_box HX5.out _ _ _) rfl rfl ?_
    have hlow : Below w.heap.size w w5 := HST.out.low.trans (HB5.out.mono HST.out.low.size)
    refine ⟨y, a5, c5, by rw [HSE.out]; rfl, fun s e => ?_, hlow.trans ((sets3_fr (B := w.heap.size + 2) _ _ _).below (fun k hk => by omega) hlow.size)⟩
    rw [HSE.out] at e
    obtain ⟨h1, h2⟩ := HY5.out s e
    have hsz := HST.out.sz
    exact ⟨h1, (h2.keep (fun q hq hl => (sets3_fr (B := w.heap.size + 2) _ _ _).same q hl (by omega))).mono (fun q _ hq => by omega)⟩
end Go.Proofs.Ytokbgbbkopmngaa
/- A step's term is right where its own was: its nodes by their names and symbols. -/
namespace Go.Proofs.Ytokbgbbkopmngaa
open Go.RowKit Go.Deep

/-! ### what holds of all nodes' names and symbols -/
def LabF (P : ByteArray × Int → Prop) : Fo → Prop
  | .nil => True
  | .node _ _ x l r => (P x ∧ LabF P l) ∧ LabF P r
def LabT (P : ByteArray × Int → Prop) (t : Tn) : Prop := P t.1 ∧ LabF P t.2
theorem lab_kids {P : ByteArray × Int → Prop} : ∀ {F : Fo}, LabF P F ↔ ∀ k ∈ kidsL F, LabT P k
  | .nil => by simp [LabF, kidsL]
  | .node b o x l r => by
    simp only [LabF, kidsL, List.mem_cons, forall_eq_or_imp]
    rw [lab_kids (F := r)]
    exact Iff.rfl
theorem lab_mk {P : ByteArray × Int → Prop} {l : List Tn} (h : ∀ k ∈ l, LabT P k) : LabF P (mkF l) := lab_kids.2 (by rw [kids_mk]; exact h)
theorem lab_sub {P : ByteArray × Int → Prop} : ∀ (ps : List Int) {t x : Tn}, LabT P t → subT ps t = some x → LabT P x
  | [], t, x, h, e => by simp only [subT, Option.some.injEq] at e; subst e; exact h
  | i :: ps, t, x, h, e => by
    simp only [subT] at e
    cases hk : kidT i t.2 with
    | none => rw [hk] at e; cases e
    | some k => rw [hk] at e; exact lab_sub ps (lab_kids.1 h.2 k (kidT_mem hk)) e
theorem lab_set {P : ByteArray × Int → Prop} : ∀ (n : Nat) {F : Fo} {t : Tn}, LabF P F → LabT P t → LabF P (setF n F t)
  | n, .nil, _, _, _ => by cases n <;> exact trivial
  | 0, .node b o x l r, t, h, ht => ⟨⟨ht.1, ht.2⟩, h.2⟩
  | n + 1, .node b o x l r, t, h, ht => ⟨h.1, lab_set n (F := r) h.2 ht⟩
theorem lab_put {P : ByteArray × Int → Prop} {u : Tn} (hu : LabT P u) : ∀ (ps : List Int) {t y : Tn}, LabT P t → putT u ps t = some y → LabT P y
  | [], t, y, h, e => by simp only [putT, Option.some.injEq] at e; subst e; exact hu
  | i :: ps, t, y, h, e => by
    simp only [putT] at e
    cases hk : kidT i t.2 with
    | none => rw [hk] at e; cases e
    | some k =>
      rw [hk] at e
      simp only at e
      cases hp : putT u ps k with
      | none => rw [hp] at e; cases e
      | some k' =>
        rw [hp] at e
        simp only [Option.some.injEq] at e
        subst e
        exact ⟨h.1, lab_set _ h.2 (lab_put hu ps (lab_kids.1 h.2 k (kidT_mem hk)) hp)⟩
theorem lab_lay {P : ByteArray × Int → Prop} {ks xs : List Tn} {i m : Nat} (h1 : ∀ k ∈ ks, LabT P k) (h2 : ∀ k ∈ xs, LabT P k) : LabF P (mkF (layL ks i m xs)) := lab_mk (fun k hk => by
  rcases lay_mem hk with h | h
  · exact h1 k h
  · exact h2 k h)
theorem stepN_lab {S : Sg} {P : ByteArray × Int → Prop} (hU : ∀ f u, S.unit f = some u → P (noB, u) ∧ P (noB, f)) {t t' : Tn} {p q : Sp} (ht : LabT P t) (h : stepN S t p = some (t', q)) : LabT P t' := by
  have hk := lab_kids.1 ht.2
  unfold stepN at h
  split at h
  · unfold growN at h
    cases hu : S.unit p.sym with
    | none => rw [hu] at h; cases h
    | some u =>
      rw [hu] at h
      simp only at h
      have hc : ∀ k ∈ [constT u], LabT P k := fun k hk => by rw [List.mem_singleton] at hk; subst hk; exact ⟨(hU _ _ hu).1, trivial⟩
      split at h
      · split at h
        · obtain ⟨rfl, rfl⟩ := Prod.mk.inj (Option.some.inj h)
          exact ⟨(hU _ _ hu).2, lab_lay (fun k hk => by rw [List.mem_singleton] at hk; subst hk; exact ht) hc⟩
        · cases h
      · split at h
        · split at h
          · obtain ⟨rfl, rfl⟩ := Prod.mk.inj (Option.some.inj h)
            exact ⟨ht.1, lab_lay hk hc⟩
          · cases h
        · cases h
  · split at h
    · rename_i hg
      have hno : t.1.1 = noB := by
        have := hg.1
        unfold gathN at this
        rw [Bool.and_eq_true] at this
        exact noName_eq this.1
      split at h
      · unfold flatN at h
        cases hy : (kidsL t.2)[p.at_.toNat]? with
        | none => rw [hy] at h; cases h
        | some y =>
          rw [hy] at h
          simp only at h
          split at h
          · obtain ⟨rfl, rfl⟩ := Prod.mk.inj (Option.some.inj h)
            exact ⟨ht.1, lab_lay hk (lab_kids.1 (hk y (List.mem_of_getElem? hy)).2)⟩
          · cases h
      · split at h
        · unfold groupN at h
          split at h
          · obtain ⟨rfl, rfl⟩ := Prod.mk.inj (Option.some.inj h)
            refine ⟨ht.1, lab_lay hk (fun k hk2 => ?_)⟩
            rw [List.mem_singleton] at hk2
            subst hk2
            refine ⟨?_, lab_mk (fun z hz => hk z (List.mem_of_mem_drop (List.mem_of_mem_take hz)))⟩
            have := ht.1
            rw [← hno]
            exact this
          · cases h
        · split at h
          · unfold swapN at h
            cases hy : (kidsL t.2)[p.at_.toNat]? with
            | none => rw [hy] at h; cases h
            | some y =>
              cases hz : (kidsL t.2)[p.at_.toNat + 1]? with
              | none => rw [hy, hz] at h; cases h
              | some z =>
                rw [hy, hz] at h
                obtain ⟨rfl, rfl⟩ := Prod.mk.inj (Option.some.inj h)
                refine ⟨ht.1, lab_lay hk (fun k hk2 => ?_)⟩
                simp only [List.mem_cons, List.not_mem_nil, or_false] at hk2
                rcases hk2 with rfl | rfl
                · exact hk _ (List.mem_of_getElem? hz)
                · exact hk _ (List.mem_of_getElem? hy)
          · split at h
            · split at h
              · unfold dropN at h
                cases hy : (kidsL t.2)[p.at_.toNat]? with
                | none => rw [hy] at h; cases h
                | some y =>
                  rw [hy] at h
                  simp only at h
                  split at h
                  · split at h
                    · cases hz : (kidsL t.2)[1 - p.at_.toNat]? with
                      | none => rw [hz] at h; cases h
                      | some z =>
                        rw [hz] at h
                        obtain ⟨rfl, rfl⟩ := Prod.mk.inj (Option.some.inj h)
                        exact hk _ (List.mem_of_getElem? hz)
                    · obtain ⟨rfl, rfl⟩ := Prod.mk.inj (Option.some.inj h)
                      exact ⟨ht.1, lab_lay hk (fun k hk => by cases hk)⟩
                  · cases h
              · cases h
            · cases h
    · cases h
theorem stepT_lab {S : Sg} {P : ByteArray × Int → Prop} (hU : ∀ f u, S.unit f = some u → P (noB, u) ∧ P (noB, f)) {t t' : Tn} {ps : List Int} {p q : Sp} (ht : LabT P t) (h : stepT S t ps p = some (t', q)) : LabT P t' := by
  obtain ⟨n, n', h1, h2, h3⟩ := stepT_some h
  exact lab_put (stepN_lab hU (lab_sub ps ht h1) h2) ps ht h3

/-! ### names and symbols of a signature -/
/-- A node's name and symbol, whatever its arguments are. -/
def labOk (l : List Sym) (x : ByteArray × Int) : Prop := if noName x.1 = false then ∀ n : Nat, x.2 = 0 → n = 0 → nodeErr l x n = 0 else (symAt l x.2).isSome = true
theorem then_of {a b : Int} (h1 : a = 0) (h2 : b = 0) : thenC a b = 0 := by subst h1 h2; rfl
theorem lab_of_err {l : List Sym} {x : ByteArray × Int} {n : Nat} (h : nodeErr l x n = 0) : labOk l x := by
  unfold labOk
  split
  · rename_i hx
    intro m h1 h2
    unfold nodeErr at h ⊢
    rw [if_pos hx] at h ⊢
    unfold varErr at h ⊢
    split at h
    · rename_i h3
      rw [if_pos ⟨h3.1, h1, h2⟩]
    · omega
  · rename_i hx
    unfold nodeErr at h
    rw [if_neg hx] at h
    split at h
    · rename_i h0
      split at h
      · rename_i s hs
        unfold symAt
        rw [if_pos h0, hs]; rfl
      · omega
    · omega
theorem err_of_lab {l : List Sym} (hc : checkE l = 0) {x : ByteArray × Int} {n : Nat} (h : labOk l x) (hn : nodeOk (sgOf l) (arAt l) x n) : nodeErr l x n = 0 := by
  unfold labOk at h
  unfold nodeOk at hn
  split at h
  · rename_i hx
    rw [if_pos hx] at hn
    exact h n hn.1 hn.2
  · rename_i hx
    rw [if_neg hx] at hn
    unfold nodeErr
    rw [if_neg hx]
    unfold symAt at h
    split at h
    · rename_i h0
      rw [if_pos h0]
      cases hs : l[x.2.toNat]? with
      | none => rw [hs] at h; cases h
      | some s =>
        simp only
        have hs' : symAt l x.2 = some s := by unfold symAt; rw [if_pos h0]; exact hs
        obtain ⟨hlt, hsk⟩ := List.getElem?_eq_some_iff.1 hs
        have hkb := (symErr_zero (right_each hc hlt)).2.1
        have hab := (symErr_zero (right_each hc hlt)).2.2.1
        rw [hsk] at hkb hab
        have hn' : if joinsAt l x.2 = true then 2 ≤ n else n = arAt l x.2 := hn
        unfold joinsAt arAt at hn'
        rw [hs'] at hn'
        dsimp only at hn'
        unfold kindB at hkb
        unfold arityB at hab
        have ht : takesB s n = true := by
          unfold takesB
          by_cases h1 : s.kind = 1
          · rw [if_pos h1] at hab ⊢
            rw [if_neg (by simp [h1])] at hn'
            simp only [beq_iff_eq]
            simp at hab
            omega
          · rw [if_neg h1]
            rw [if_pos (by simpa [h1] using hkb)] at hn'
            simpa using hn'
        rw [if_pos ht]
    · cases h
theorem labF_of_err {l : List Sym} : ∀ {F : Fo}, errF l F = 0 → LabF (labOk l) F
  | .nil, _ => trivial
  | .node _ _ x m r, he => by
    rw [errF] at he
    obtain ⟨h1, h2⟩ := then_zero he
    obtain ⟨h3, h4⟩ := then_zero h1
    exact ⟨⟨lab_of_err h3, labF_of_err h4⟩, labF_of_err h2⟩
theorem errF_of_lab {l : List Sym} (hc : checkE l = 0) : ∀ {F : Fo}, LabF (labOk l) F → RightF (sgOf l) (arAt l) F → errF l F = 0
  | .nil, _, _ => rfl
  | .node _ _ x m r, h, hr => by
    rw [errF]
    exact then_of (then_of (err_of_lab hc h.1.1 hr.1.1) (errF_of_lab hc h.1.2 hr.1.2)) (errF_of_lab hc h.2 hr.2)
theorem right_lab {l : List Sym} {t : Tn} (h : rightB l t = true) : checkE l = 0 ∧ LabT (labOk l) t := by
  unfold rightB at h
  simp only [Bool.and_eq_true, beq_iff_eq] at h
  have he := h.2
  unfold errT at he
  obtain ⟨h3, h4⟩ := then_zero he
  exact ⟨h.1, lab_of_err h3, labF_of_err h4⟩
theorem right_of {l : List Sym} {t : Tn} (hc : checkE l = 0) (h : LabT (labOk l) t) (hr : RightT (sgOf l) (arAt l) t) : rightB l t = true := by
  unfold rightB
  simp only [Bool.and_eq_true, beq_iff_eq]
  refine ⟨hc, ?_⟩
  unfold errT
  exact then_of (err_of_lab hc h.1 hr.1) (errF_of_lab hc h.2 hr.2)
theorem noB_lab {l : List Sym} {f : Int} (h : (symAt l f).isSome = true) : labOk l (noB, f) := by
  unfold labOk
  rw [if_neg (by rw [noName_noB]; simp)]
  exact h
theorem unit_lab {l : List Sym} (hc : checkE l = 0) : ∀ f u, (sgOf l).unit f = some u → labOk l (noB, u) ∧ labOk l (noB, f) := by
  intro f u hu
  simp only [sgOf, Option.map_eq_some_iff] at hu
  obtain ⟨i, hi, rfl⟩ := hu
  obtain ⟨hlt, _⟩ := unit_facts hc hi
  refine ⟨noB_lab (by rw [symAt_in hlt]; rfl), noB_lab ?_⟩
  unfold unitAt at hi
  split at hi
  · rename_i hf
    have : symAt l f = some l[f.toNat] := by unfold symAt; rw [if_pos hf.1, List.getElem?_eq_getElem hf.2]
    rw [this]; rfl
  · cases hi
theorem unit_joins {l : List Sym} : ∀ f u, (sgOf l).unit f = some u → (sgOf l).joins f = true := by
  intro f u hu
  simp only [sgOf, Option.map_eq_some_iff] at hu ⊢
  obtain ⟨i, hi, rfl⟩ := hu
  unfold unitAt at hi
  split at hi
  · rename_i hf
    split at hi
    · rename_i hk
      unfold joinsAt
      have : symAt l f = some l[f.toNat] := by unfold symAt; rw [if_pos hf.1, List.getElem?_eq_getElem hf.2]
      rw [this]
      simp [hk]
    · cases hi
  · cases hi
/-- A step of a right term leads to a right one, equal to it, and back of it leads back. -/
theorem step_sound {l : List Sym} {t t' : Tn} {ps : List Int} {p q : Sp} (ht : rightB l t = true) (hc : Cln t.2) (h : stepT (sgOf l) t ps p = some (t', q)) :
    rightB l t' = true ∧ Cln t'.2 ∧ canonT (sgOf l) t' = canonT (sgOf l) t ∧ ∃ q', stepT (sgOf l) t' ps q = some (t, q') := by
  obtain ⟨hOk, hR⟩ := right_facts ht
  obtain ⟨hE, hL⟩ := right_lab ht
  obtain ⟨r1, r2, r3, r4⟩ := stepT_ok hOk unit_joins hR hc h
  exact ⟨right_of hE (stepT_lab (unit_lab hE) hL h) r1, r2, r3, r4⟩
theorem rightB_cl {l : List Sym} {t : Tn} : rightB l (clT t) = rightB l t := by
  have hF : ∀ F : Fo, errF l (clF F) = errF l F := by
    intro F
    induction F with
    | nil => rfl
    | node b o x m r ihm ihr => simp only [clF, errF]; rw [ihm, ihr, clF_len]
  unfold rightB clT
  simp only
  unfold errT
  rw [hF, clF_len]
end Go.Proofs.Ytokbgbbkopmngaa
/- What the document's At answers. -/
namespace Go.Proofs.Ytokbgbbkopmngaa
open Go.RowKit Go.Deep

theorem own_none (W : World) (B0 : Nat) : RowTm B0 W (ansT none).1 none 0 (ansT none).2 := ⟨⟨by decide, Nat.le_refl _, by simp, by simp [ansT, noT, lenF]⟩, .inl rfl⟩
theorem TBox.sets {W : World} {B : Nat} {x y : ByteArray × Int} {a b : Option Addr} {n m c d : Nat} (h : TBox W B y b m d) : TBox (((W.setCell ⟨B, 0, none⟩ (.string x.1)).setCell ⟨B, 1, none⟩ (.int .i64 x.2)).setCell ⟨B, 2, none⟩ (.slice a n c)) B x a n c := XBox.all (x := x) (y := y) h _

set_option maxRecDepth 100000 in
set_option maxHeartbeats 4000000 in
theorem rat_own (ps : List Int) (t : Tn) (a : Option Addr) (c : Nat) (pa : Option Addr) (pn pc : Nat) (w : World) (hT : TmAt w t.1 a c t.2) (hP : IntsAt w pa pn ps) (hpn : pn ≤ 9223372036854775807) :
    Calls Try.prog 25 #[.agg #[.string t.1.1, .int .i64 t.1.2, .slice a (lenF t.2) c], .slice pa pn pc] w fun e w' => ∃ a' c', e = .returned (ansV (subT ps t) a' c') ∧ OwnTm false (fun q => w.heap.size ≤ q) w' (ansT (subT ps t)).1 a' c' (ansT (subT ps t)).2 ∧ Below w.heap.size w w' := by
  have hb1 : Below w.heap.size w (w.alloc (.cells #[.string t.1.1, .int .i64 t.1.2, .slice a (lenF t.2) c] 26)) := (Below.refl _ w).alloc (Nat.le_refl _) _
  have hb2 : Below w.heap.size w ((w.alloc (.cells #[.string t.1.1, .int .i64 t.1.2, .slice a (lenF t.2) c] 26)).alloc (.cells #[.string ⟨#[]⟩, .int .i64 0, .slice none 0 0] 26)) := hb1.alloc hb1.size _
  have hbx : TBox ((w.alloc (.cells #[.string t.1.1, .int .i64 t.1.2, .slice a (lenF t.2) c] 26)).alloc (.cells #[.string ⟨#[]⟩, .int .i64 0, .slice none 0 0] 26)) w.heap.size t.1 a (lenF t.2) c := (TBox.new w _ a _ c).below ((Below.refl _ _).alloc (Nat.le_refl _) _)
  have hrx : XBox ((w.alloc (.cells #[.string t.1.1, .int .i64 t.1.2, .slice a (lenF t.2) c] 26)).alloc (.cells #[.string ⟨#[]⟩, .int .i64 0, .slice none 0 0] 26)) (w.heap.size + 1) (⟨#[]⟩, 0) (.slice none 0 0) := heap_alloc2_new w _ _
  obtain rfl := hP.len
  have HT : Hid (TmAt w t.1 a c t.2) := hT
  have HP : Hid (IntsAt w pa ps.length ps) := hP
  clear hT hP hb1
  go_enter Try.func25, Try.ntmps25
  go_wp2
  go_loopw [6] (fun i wr => ∃ (k : Nat) (t1 : Tn) (a1 : Option Addr) (c1 : Nat), k ≤ ps.length ∧ i = .int .i64 k ∧ TBox wr w.heap.size t1.1 a1 (lenF t1.2) c1 ∧ TmAt w t1.1 a1 c1 t1.2 ∧ subT (ps.drop k) t1 = subT ps t ∧ Below w.heap.size w wr ∧ XBox wr (w.heap.size + 1) (⟨#[]⟩, 0) (.slice none 0 0)) (fun i _ => ps.length - (intOf i).toNat)
  case atStart => exact ⟨0, t, a, c, Nat.zero_le _, rfl, hbx, HT.out, rfl, hb2, hrx⟩
  case round =>
    obtain ⟨k, t1, a1, c1, hk, rfl, hB, hT1, hS, hb, hX⟩ := hrel
    clear hbx hb2 hrx
    have HB : Hid (TBox wr w.heap.size t1.1 a1 (lenF t1.2) c1) := hB
    have HT1 : Hid (TmAt w t1.1 a1 c1 t1.2) := hT1
    have HS : Hid (subT (ps.drop k) t1 = subT ps t) := hS
    have HL : Hid (Below w.heap.size w wr) := hb
    have HX : Hid (XBox wr (w.heap.size + 1) (⟨#[]⟩, 0) (.slice none 0 0)) := hX
    have hnl : lenF t1.2 ≤ 9223372036854775807 := by have := hT1.sizes.len; have := hT1.sizes.cap; unfold maxLen at *; omega
    by_cases hlt : k < ps.length
    · obtain ⟨pb, po, rfl, p0'⟩ := HP.out.cells k hlt
      obtain ⟨i, hid⟩ : ∃ i, ps[k] = i := ⟨_, rfl⟩
      rw [hid] at p0'
      have p0 := below_cell hb _ _ p0'
      have b2 := hB.c2
      have HD : Hid (ps.drop k = i :: ps.drop (k + 1)) := by show _ = _; rw [List.drop_eq_getElem_cons hlt, hid]
      have hj0 : (0 : Int) ≤ (k : Int) := by omega
      have hjn : (k : Int) < (ps.length : Int) := by omega
      have hne := later_some wr
      have d0 := later_cell p0
      have d1 := later_cell b2
      clear hB hT1 hS hb hX hid
      by_cases hbad : i < 0
      · have hd : decide (i < 0) = true := by simp; omega
        have HN : Hid (subT ps t = none) := by
          show _ = _
          rw [← HS.out, HD.out, subT, kidT_bad (by omega)]
        go_wp2_with fail
        refine wp_region_later (by kernel_rfl) (by kernel_rfl) ?_
        repeat (go_big_quiet_step (fail))
        refine wpQuiet_nil ?_
        intro _ hw'
        obtain ⟨b3, hw''⟩ := hw'
        subst hw''
        have hX3 := HX.out.below b3.below
        have r0 := hX3.c0; have r1 := hX3.c1; have r2 := hX3.c2
        have f0 := hX3.f (k := 0); have f1 := hX3.f (k := 1); have f2 := hX3.f (k := 2)
        have HX3 : Hid (XBox b3.now (w.heap.size + 1) (⟨#[]⟩, 0) (.slice none 0 0)) := hX3
        have HL3 : Hid (Below w.heap.size w b3.now) := HL.out.trans (b3.below.mono HL.out.size)
        clear hX3 d0 d1 hne p0 p0' b2
        go_wp2
        refine ret_pair rfl rfl (HX3.out.all (x := (⟨#[]⟩, 0)) _) rfl ?_
        rw [HN.out]
        exact ⟨none, 0, rfl, (own_none _ w.heap.size).own, sets_below HL3.out (by omega) _ _ _⟩
      · obtain ⟨n, rfl⟩ : ∃ n : Nat, i = n := ⟨i.toNat, by omega⟩
        have hd : decide ((n : Int) < 0) = false := by simp
        by_cases hge : lenF t1.2 ≤ n
        · have hd2 : decide (lenF t1.2 ≤ n) = true := by simp; omega
          have HN : Hid (subT ps t = none) := by
            show _ = _
            rw [← HS.out, HD.out, subT, kidT_bad (by omega)]
          go_wp2_with fail
          refine wp_region_later (by kernel_rfl) (by kernel_rfl) ?_
          repeat (go_big_quiet_step (fail))
          refine wpQuiet_nil ?_
          intro _ hw'
          obtain ⟨b3, hw''⟩ := hw'
          subst hw''
          have hX3 := HX.out.below b3.below
          have r0 := hX3.c0; have r1 := hX3.c1; have r2 := hX3.c2
          have f0 := hX3.f (k := 0); have f1 := hX3.f (k := 1); have f2 := hX3.f (k := 2)
          have HX3 : Hid (XBox b3.now (w.heap.size + 1) (⟨#[]⟩, 0) (.slice none 0 0)) := hX3
          have HL3 : Hid (Below w.heap.size w b3.now) := HL.out.trans (b3.below.mono HL.out.size)
          clear hX3 d0 d1 hne p0 p0' b2
          go_wp2
          refine ret_pair rfl rfl (HX3.out.all (x := (⟨#[]⟩, 0)) _) rfl ?_
          rw [HN.out]
          exact ⟨none, 0, rfl, (own_none _ w.heap.size).own, sets_below HL3.out (by omega) _ _ _⟩
        · have hd2 : decide (lenF t1.2 ≤ n) = false := by simp; omega
          obtain ⟨g, q, rfl, hkk⟩ := HT1.out.args.get (by omega)
          obtain ⟨y, a2, c2, l2, kd⟩ := hkk.kid (k := n) (by omega)
          obtain ⟨B1, O1, sp⟩ := kd.split
          have HU : Hid ((kidsL t1.2)[n]? = some (y, l2)) := kids_split sp
          have kd' := kd.below HL.out
          have HK : Hid (TmAt w y a2 c2 l2) := kd.at_
          have hn0 : (0 : Int) ≤ (n : Int) := by omega
          have hnn : (n : Int) < (lenF t1.2 : Int) := by omega
          have k0 := kd'.name; have k1 := kd'.sym; have k2 := kd'.list
          clear hkk kd sp kd'
          go_wp2_with fail
          refine wp_region_later (by kernel_rfl) (by kernel_rfl) ?_
          repeat (go_big_quiet_step (fail))
          refine wpQuiet_nil ?_
          intro _ hw'
          obtain ⟨b3, hw''⟩ := hw'
          subst hw''
          have HX3 : Hid (XBox b3.now (w.heap.size + 1) (⟨#[]⟩, 0) (.slice none 0 0)) := HX.out.below b3.below
          have HB3 : Hid (TBox b3.now w.heap.size t1.1 (some ⟨g, q, none⟩) (lenF t1.2) c1) := HB.out.below b3.below
          have HL3 : Hid (Below w.heap.size w b3.now) := HL.out.trans (b3.below.mono HL.out.size)
          have e0 := later_cell k0 b3
          have e1 := later_cell k1 b3
          have e2 := later_cell k2 b3
          have p1 := d0 b3
          have b1 := d1 b3
          obtain ⟨W9, hW9⟩ : ∃ W9, b3.now = W9 := ⟨_, rfl⟩
          rw [hW9] at HX3 HB3 HL3 e0 e1 e2 p1 b1 ⊢
          clear hW9 d0 d1 hne p0 p0' b2 k0 k1 k2
          have u0 := HB3.out.c0
          have u1 := HB3.out.c1
          have f0 := XBox.f (k := 0) HB3.out
          have f1 := XBox.f (k := 1) HB3.out
          have f2 := XBox.f (k := 2) HB3.out
          go_wp2
          go_region
          all_goals
            go_wp2
            go_roundw
            case rel =>
              refine ⟨k + 1, (y, l2), a2, c2, by omega, by go_num, ?_, HK.out, ?_, ?_, ?_⟩
              · exact TBox.sets HB3.out
              · rw [← HS.out, HD.out, subT, kidT_is (by omega) HU.out]
              · exact (sets_below HL3.out (Nat.le_refl _) _ _ _).drew
              · exact (sets_far (by omega) _ _ _).trans HX3.out
            case measure => simp [intOf]; omega
    · have e1 : ps.drop k = [] := List.drop_eq_nil_iff.2 (by omega)
      rw [e1, subT] at hS
      have HS' : Hid (subT ps t = some t1) := hS.symm
      have x0 := hB.c0; have x1 := hB.c1; have x2 := hB.c2
      clear hB hT1 hS hb hX HS
      go_wp2_with fail
      refine (rclone_any t1.1 t1.2 a1 c1 wr (HT1.out.below HL.out)).mono ?_
      rintro e w2 ⟨a2, c2, rfl, ho2, hb⟩
      have hX3 := HX.out.below hb
      have r0 := hX3.c0; have r1 := hX3.c1; have r2 := hX3.c2
      have f0 := hX3.f (k := 0); have f1 := hX3.f (k := 1); have f2 := hX3.f (k := 2)
      have HX3 : Hid (XBox w2 (w.heap.size + 1) (⟨#[]⟩, 0) (.slice none 0 0)) := hX3
      have HL3 : Hid (Below w.heap.size w w2) := HL.out.trans (hb.mono HL.out.size)
      have HO : Hid (RowTm wr.heap.size w2 t1.1 a2 c2 t1.2) := ho2
      have hxlt := HX.out.lt
      clear hX3 hb ho2 x0 x1 x2
      go_wp2
      refine ret_pair rfl rfl (HX3.out.all (x := t1.1) _) rfl ?_
      rw [HS'.out]
      exact ⟨a2, c2, rfl, ((HO.out.keep (fun q hq _ => sets_far (by omega) _ _ _)).own.mono (fun q _ hq => Nat.le_trans HL.out.size hq)), sets_below HL3.out (by omega) _ _ _⟩
theorem rat_any (ps : List Int) (t : Tn) (a : Option Addr) (c : Nat) (pa : Option Addr) (pn pc : Nat) (w : World) (hT : TmAt w t.1 a c t.2) (hP : IntsAt w pa pn ps) (hpn : pn ≤ 9223372036854775807) :
    Calls Try.prog 25 #[.agg #[.string t.1.1, .int .i64 t.1.2, .slice a (lenF t.2) c], .slice pa pn pc] w fun e w' => ∃ a' c', e = .returned (ansV (subT ps t) a' c') ∧ TmAt w' (ansT (subT ps t)).1 a' c' (ansT (subT ps t)).2 ∧ Below w.heap.size w w' :=
  (rat_own ps t a c pa pn pc w hT hP hpn).mono fun _ _ ⟨a', c', he, ho, hb⟩ => ⟨a', c', he, ho.tm, hb⟩
end Go.Proofs.Ytokbgbbkopmngaa
/- What the document's Put answers. -/
namespace Go.Proofs.Ytokbgbbkopmngaa
open Go.RowKit Go.Deep

def RPutOk (ps : List Int) : Prop := ∀ (t u : Tn) (a ua : Option Addr) (c uc : Nat) (pa : Option Addr) (pn pc : Nat) (w : World), TmAt w t.1 a c t.2 → TmAt w u.1 ua uc u.2 → IntsAt w pa pn ps → pn ≤ pc → pc ≤ 9223372036854775807 →
  Calls Try.prog 26 #[.agg #[.string t.1.1, .int .i64 t.1.2, .slice a (lenF t.2) c], .slice pa pn pc, .agg #[.string u.1.1, .int .i64 u.1.2, .slice ua (lenF u.2) uc]] w fun e w' => ∃ a' c', e = .returned (ansV (putT u ps t) a' c') ∧ OwnTm false (fun q => w.heap.size ≤ q) w' (ansT (putT u ps t)).1 a' c' (ansT (putT u ps t)).2 ∧ Below w.heap.size w w'

theorem put_cons_none {u : Tn} {n : Nat} {p : List Int} {t k : Tn} (hn : n < lenF t.2) (hk : (kidsL t.2)[n]? = some k) (h : putT u p k = none) : putT u ((n : Int) :: p) t = none := by
  rw [putT, kidT_is (m := k.2) (x := k.1) hn hk]; simp only [h]
theorem put_cons_some {u : Tn} {n : Nat} {p : List Int} {t k k' : Tn} (hn : n < lenF t.2) (hk : (kidsL t.2)[n]? = some k) (h : putT u p k = some k') : putT u ((n : Int) :: p) t = some (t.1, setF n t.2 k') := by
  rw [putT, kidT_is (m := k.2) (x := k.1) hn hk]; simp only [h, Int.toNat_natCast]

set_option maxRecDepth 100000 in
set_option maxHeartbeats 4000000 in
theorem rput_all : ∀ ps, RPutOk ps := by
  intro ps
  induction ps with
  | nil =>
    intro t u a ua c uc pa pn pc w hT hU hP hpc hpm
    obtain rfl := hP.len
    have I0 := PutIn.new w t u a ua c uc
    obtain ⟨W, hW⟩ : ∃ W, ((w.alloc (.cells #[.string t.1.1, .int .i64 t.1.2, .slice a (lenF t.2) c] 26)).alloc (.cells #[.string u.1.1, .int .i64 u.1.2, .slice ua (lenF u.2) uc] 26)).alloc (.cells #[.string ⟨#[]⟩, .int .i64 0, .slice none 0 0] 26) = W := ⟨_, rfl⟩
    rw [hW] at I0
    have HI : Hid (PutIn w t u a ua c uc W) := I0
    have HU : Hid (TmAt w u.1 ua uc u.2) := hU
    have x0 := I0.u.c0; have x1 := I0.u.c1; have x2 := I0.u.c2
    clear I0 hT hU hP
    go_enter Try.func26, Try.ntmps26
    go_wp2_with (rw [hW])
    clear hW
    refine (rclone_any u.1 u.2 ua uc W (HU.out.below HI.out.low)).mono ?_
    rintro e w1 ⟨a1, c1, rfl, hS1, hb⟩
    have HI1 : Hid (PutIn w t u a ua c uc w1) := HI.out.below hb
    have HS1 : Hid (RowTm W.heap.size w1 u.1 a1 c1 u.2) := hS1
    have hlt := HI.out.r.lt
    clear hb hS1 x0 x1 x2
    have r0 := HI1.out.r.c0; have r1 := HI1.out.r.c1; have r2 := HI1.out.r.c2
    have f0 := HI1.out.r.f (k := 0); have f1 := HI1.out.r.f (k := 1); have f2 := HI1.out.r.f (k := 2)
    go_wp2
    refine ret_pair rfl rfl (HI1.out.r.all (x := u.1) _) rfl ?_
    exact ⟨a1, c1, rfl, (HS1.out.keep (fun q hq _ => sets_far (by omega) _ _ _)).own.mono (fun q _ hq => by have := HI.out.low.size; omega), sets_below HI1.out.low (by omega) _ _ _⟩
  | cons i p ih =>
    intro t u a ua c uc pa pn pc w hT hU hP hpc hpm
    obtain rfl := hP.len
    have I0 := PutIn.new w t u a ua c uc
    obtain ⟨W, hW⟩ : ∃ W, ((w.alloc (.cells #[.string t.1.1, .int .i64 t.1.2, .slice a (lenF t.2) c] 26)).alloc (.cells #[.string u.1.1, .int .i64 u.1.2, .slice ua (lenF u.2) uc] 26)).alloc (.cells #[.string ⟨#[]⟩, .int .i64 0, .slice none 0 0] 26) = W := ⟨_, rfl⟩
    rw [hW] at I0
    have hWs : W.heap.size = w.heap.size + 1 + 1 + 1 := by rw [← hW, World.size_alloc, World.size_alloc, World.size_alloc]
    have HI : Hid (PutIn w t u a ua c uc W) := I0
    have HT : Hid (TmAt w t.1 a c t.2) := hT
    have HU : Hid (TmAt w u.1 ua uc u.2) := hU
    have HP : Hid (IntsAt w pa (i :: p).length (i :: p)) := hP
    have IH : Hid (RPutOk p) := ih
    obtain ⟨pb, po, rfl, p0'⟩ := hP.cells 0 (by simp)
    have p0 := below_cell I0.low _ _ p0'
    simp only [List.getElem_cons_zero, Nat.add_zero] at p0
    have hlen : (i :: p).length = p.length + 1 := rfl
    rw [hlen] at hpc HP ⊢
    have b2 := I0.t.c2
    have hnl : lenF t.2 ≤ 9223372036854775807 := by have := hT.sizes.len; have := hT.sizes.cap; unfold maxLen at *; omega
    have hne := later_some W
    have d0 := later_cell p0
    have d1 := later_cell b2
    have hj0 : (0 : Int) < (p.length : Int) + 1 := by omega
    have hlz : ((p.length : Int) + 1 == 0) = false := by simp; omega
    clear I0 hT hU hP ih p0'
    by_cases hbad : i < 0
    · have hd : decide (i < 0) = true := by simp; omega
      have HN : Hid (putT u (i :: p) t = none) := by
        show _ = _
        rw [putT, kidT_bad (by omega)]
      go_enter Try.func26, Try.ntmps26
      go_wp2_with (rw [hW])
      clear hW
      refine wp_region_later (by kernel_rfl) (by kernel_rfl) ?_
      repeat (go_big_quiet_step (fail))
      refine wpQuiet_nil ?_
      intro _ hw'
      obtain ⟨b3, hw''⟩ := hw'
      subst hw''
      have HI3 : Hid (PutIn w t u a ua c uc b3.now) := HI.out.below b3.below
      have r0 := HI3.out.r.c0; have r1 := HI3.out.r.c1; have r2 := HI3.out.r.c2
      have f0 := HI3.out.r.f (k := 0); have f1 := HI3.out.r.f (k := 1); have f2 := HI3.out.r.f (k := 2)
      clear d0 d1 hne p0 b2
      go_wp2
      refine ret_pair rfl rfl (HI3.out.r.all (x := (⟨#[]⟩, 0)) _) rfl ?_
      rw [HN.out]
      exact ⟨none, 0, rfl, (own_none _ _).own, sets_below HI3.out.low (by omega) _ _ _⟩
    · obtain ⟨n, rfl⟩ : ∃ n : Nat, i = n := ⟨i.toNat, by omega⟩
      have hd : decide ((n : Int) < 0) = false := by simp
      by_cases hge : lenF t.2 ≤ n
      · have hd2 : decide (lenF t.2 ≤ n) = true := by simp; omega
        have HN : Hid (putT u ((n : Int) :: p) t = none) := by
          show _ = _
          rw [putT, kidT_bad (by omega)]
        go_enter Try.func26, Try.ntmps26
        go_wp2_with (rw [hW])
        clear hW
        refine wp_region_later (by kernel_rfl) (by kernel_rfl) ?_
        repeat (go_big_quiet_step (fail))
        refine wpQuiet_nil ?_
        intro _ hw'
        obtain ⟨b3, hw''⟩ := hw'
        subst hw''
        have HI3 : Hid (PutIn w t u a ua c uc b3.now) := HI.out.below b3.below
        have r0 := HI3.out.r.c0; have r1 := HI3.out.r.c1; have r2 := HI3.out.r.c2
        have f0 := HI3.out.r.f (k := 0); have f1 := HI3.out.r.f (k := 1); have f2 := HI3.out.r.f (k := 2)
        clear d0 d1 hne p0 b2
        go_wp2
        refine ret_pair rfl rfl (HI3.out.r.all (x := (⟨#[]⟩, 0)) _) rfl ?_
        rw [HN.out]
        exact ⟨none, 0, rfl, (own_none _ _).own, sets_below HI3.out.low (by omega) _ _ _⟩
      · have hd2 : decide (lenF t.2 ≤ n) = false := by simp; omega
        obtain ⟨g, q, rfl, hkk⟩ := HT.out.args.get (by omega)
        obtain ⟨y, a2, c2, l2, kd⟩ := hkk.kid (k := n) (by omega)
        obtain ⟨B1, O1, sp⟩ := kd.split
        have HU1 : Hid ((kidsL t.2)[n]? = some (y, l2)) := kids_split sp
        have HKT : Hid (TmAt w y a2 c2 l2) := kd.at_
        have kd' := kd.below HI.out.low
        have k0 := kd'.name; have k1 := kd'.sym; have k2 := kd'.list
        have hn0 : (0 : Int) ≤ (n : Int) := by omega
        have hnn : (n : Int) < (lenF t.2 : Int) := by omega
        have HTail : Hid (∀ pa', (pc ≠ 1 → pa' = some ⟨pb, po + 1, none⟩) → IntsAt w pa' p.length p) := fun pa' h => by
          refine ⟨rfl, fun j hj => ⟨pb, po + 1, h (by omega), ?_⟩⟩
          obtain ⟨b, off, e, hc⟩ := HP.out.cells (j + 1) (by simp; omega)
          cases e
          rw [show po + 1 + j = po + (j + 1) by omega, hc]
          simp
        have x0 := HI.out.u.c0; have x1 := HI.out.u.c1; have x2 := HI.out.u.c2
        clear hkk kd sp kd'
        go_enter Try.func26, Try.ntmps26
        go_wp2_with (rw [hW])
        clear hW
        refine wp_region_later (by kernel_rfl) (by kernel_rfl) ?_
        repeat (go_big_quiet_step (fail))
        refine wpQuiet_nil ?_
        intro _ hw'
        obtain ⟨b3, hw''⟩ := hw'
        subst hw''
        have HI3 : Hid (PutIn w t u (some ⟨g, q, none⟩) ua c uc b3.now) := HI.out.below b3.below
        have e0 := later_cell k0 b3
        have e1 := later_cell k1 b3
        have e2 := later_cell k2 b3
        have p1 := d0 b3
        have b1 := d1 b3
        have y0 := later_cell x0 b3
        have y1 := later_cell x1 b3
        have y2 := later_cell x2 b3
        have hsz3 := b3.below.size
        obtain ⟨W9, hW9⟩ : ∃ W9, b3.now = W9 := ⟨_, rfl⟩
        rw [hW9] at HI3 e0 e1 e2 p1 b1 y0 y1 y2 hsz3 ⊢
        clear hW9 d0 d1 hne p0 b2 k0 k1 k2 x0 x1 x2 HI
        obtain ⟨r, hr⟩ : ∃ r, putT u p (y, l2) = r := ⟨_, rfl⟩
        have HR : Hid (putT u p (y, l2) = r) := hr
        have HIH : Hid (∀ W' pa' pc', Below w.heap.size w W' → IntsAt w pa' p.length p → p.length ≤ pc' → pc' ≤ 9223372036854775807 → Calls Try.prog 26 #[.agg #[.string y.1, .int .i64 y.2, .slice a2 (lenF l2) c2], .slice pa' p.length pc', .agg #[.string u.1.1, .int .i64 u.1.2, .slice ua (lenF u.2) uc]] W' fun e w' => ∃ a' c', e = .returned (.tuple #[.agg #[.string (ansT r).1.1, .int .i64 (ansT r).1.2, .slice a' (lenF (ansT r).2) c'], .int .i64 (ansE r)]) ∧ OwnTm false (fun q => W'.heap.size ≤ q) w' (ansT r).1 a' c' (ansT r).2 ∧ Below W'.heap.size W' w') := fun W' pa' pc' hbl h1 h2 h3 => by
          have := IH.out (y, l2) u a2 ua c2 uc pa' p.length pc' W' (HKT.out.below hbl) (HU.out.below hbl) (h1.below hbl) h2 h3
          rw [hr] at this
          exact this
        obtain ⟨xr, hxr⟩ : ∃ xr, ansT r = xr := ⟨_, rfl⟩
        obtain ⟨er, her⟩ : ∃ er, ansE r = er := ⟨_, rfl⟩
        rw [hxr, her] at HIH
        have HXR : Hid (ansT r = xr) := hxr
        have HER : Hid (ansE r = er) := her
        have hpo : Hid (Below w.heap.size w W9) := HI3.out.low
        clear hr hxr her
        go_upto_region 5 with fail
        go_cut [8, 9] (fun v8 v9 wc => ∃ B8 a' c', v8 = .pointer (some ⟨B8, 0, none⟩) ∧ v9 = .int .i64 er ∧ TBox wc B8 xr.1 a' (lenF xr.2) c' ∧ OwnTm false (fun q => W9.heap.size ≤ q) wc xr.1 a' c' xr.2 ∧ Below W9.heap.size W9 wc)
        case first =>
          by_cases hpc1 : pc = 1
          · subst hpc1
            have hs1 : (1 : Int) ≤ (p.length : Int) + 1 := by omega
            have hs2 : (p.length : Int) + 1 ≤ (1 : Int) := by omega
            have HIH0 : Hid (∀ W', Below w.heap.size w W' → Calls Try.prog 26 #[.agg #[.string y.1, .int .i64 y.2, .slice a2 (lenF l2) c2], .slice (some ⟨pb, po, none⟩) 0 0, .agg #[.string u.1.1, .int .i64 u.1.2, .slice ua (lenF u.2) uc]] W' fun e w' => ∃ a' c', e = .returned (.tuple #[.agg #[.string xr.1.1, .int .i64 xr.1.2, .slice a' (lenF xr.2) c'], .int .i64 er]) ∧ OwnTm false (fun q => W'.heap.size ≤ q) w' xr.1 a' c' xr.2 ∧ Below W'.heap.size W' w') := fun W' hb => by
              have hp0 : p.length = 0 := by omega
              have := HIH.out W' (some ⟨pb, po, none⟩) 0 hb (HTail.out _ (fun h => absurd rfl h)) (by omega) (by omega)
              rw [hp0] at this
              exact this
            go_region_held3 (fun w' => w'.cell? ⟨w.heap.size, 2, none⟩ = some (.slice (some ⟨g, q, none⟩) (lenF t.2) c) ∧ w'.cell? ⟨pb, po, none⟩ = some (.int .i64 n) ∧ w'.cell? ⟨g, q + n * 3, none⟩ = some (.string y.1) ∧ w'.cell? ⟨g, q + n * 3 + 1, none⟩ = some (.int .i64 y.2) ∧ w'.cell? ⟨g, q + n * 3 + 2, none⟩ = some (.slice a2 (lenF l2) c2) ∧ w'.cell? ⟨w.heap.size + 1, 0, none⟩ = some (.string u.1.1) ∧ w'.cell? ⟨w.heap.size + 1, 1, none⟩ = some (.int .i64 u.1.2) ∧ w'.cell? ⟨w.heap.size + 1, 2, none⟩ = some (.slice ua (lenF u.2) uc)) ((first | (go_split_ands; refine ⟨?_, ?_, ?_, ?_, ?_, ?_, ?_, ?_⟩ <;> (refine below_cell HB2.out _ _ ?_; assumption)) | (go_split_ands; refine ⟨?_, ?_, ?_, ?_, ?_, ?_, ?_, ?_⟩ <;> (refine below_cell (HB2.out.alloc HB2.out.size _) _ _ ?_; assumption)) | (go_split_ands; refine ⟨?_, ?_, ?_, ?_, ?_, ?_, ?_, ?_⟩ <;> (refine below_cell (sets_below HB2.out (Nat.le_refl _) _ _ _) _ _ ?_; assumption)) | (go_split_ands; refine ⟨?_, ?_, ?_, ?_, ?_, ?_, ?_, ?_⟩ <;> (refine below_cell ((Below.refl _ W9).alloc (Nat.le_refl _) _) _ _ ?_; assumption)) | go_keep | fail)) ((first | (go_at_call 26; refine (HIH0.out (World.drew W9) hpo.out.drew).mono ?_; rintro e w2 ⟨a', c', rfl, hT2, hb2⟩; have HT2 : Hid (OwnTm false (fun q => W9.heap.size ≤ q) w2 xr.1 a' c' xr.2) := hT2; have HB2 : Hid (Below W9.heap.size W9 w2) := ((Below.refl _ W9).drew).trans hb2; clear hT2 hb2) | (go_at_call 26; refine (HIH0.out (World.drew (World.alloc W9 (.cells #[.string ⟨#[]⟩, .int .i64 0, .slice none 0 0] 26))) (hpo.out.alloc hpo.out.size _).drew).mono ?_; rintro e w2 ⟨a', c', rfl, hT2, hb2⟩; have HT2 : Hid (OwnTm false (fun q => W9.heap.size < q) w2 xr.1 a' c' xr.2) := hT2.mono (fun q _ hq => by rw [show (World.drew (World.alloc W9 (.cells #[.string ⟨#[]⟩, .int .i64 0, .slice none 0 0] 26))).heap.size = W9.heap.size + 1 from World.size_alloc _ _] at hq; omega); have HB2 : Hid (Below W9.heap.size W9 w2) := (((Below.refl _ W9).alloc (Nat.le_refl _) _).drew).trans (hb2.mono (by show _ ≤ (W9.alloc _).heap.size; rw [World.size_alloc]; omega)); have HX2 : Hid (XBox w2 W9.heap.size (⟨#[]⟩, 0) (.slice none 0 0)) := XBox.below (W := World.drew (World.alloc W9 (.cells #[.string ⟨#[]⟩, .int .i64 0, .slice none 0 0] 26))) (heap_alloc_new W9 _) hb2; have z0 := HX2.out.c0; have z1 := HX2.out.c1; have z2 := HX2.out.c2; have zf0 := HX2.out.f (k := 0); have zf1 := HX2.out.f (k := 1); have zf2 := HX2.out.f (k := 2); clear hT2 hb2) | fail))
            all_goals (go_wp2_with fail; go_meet)
            all_goals first
              | exact ⟨w2.heap.size, a', c', rfl, rfl, TBox.new _ _ _ _ _, HT2.out.below ((Below.refl _ _).alloc (Nat.le_refl _) _), HB2.out.alloc HB2.out.size _⟩
              | exact ⟨W9.heap.size, a', c', rfl, rfl, HX2.out.all (x := xr.1) _, (HT2.out.keep (fun q hq _ => sets_far (by omega) _ _ _)).mono (fun q _ hq => by omega), sets_below HB2.out (Nat.le_refl _) _ _ _⟩
          · have hs1 : (1 : Int) ≤ (p.length : Int) + 1 := by omega
            have hs2 : (p.length : Int) + 1 ≤ (pc : Int) := by omega
            have hs3 : (1 : Int) ≤ (pc : Int) := by omega
            go_region_held3 (fun w' => w'.cell? ⟨w.heap.size, 2, none⟩ = some (.slice (some ⟨g, q, none⟩) (lenF t.2) c) ∧ w'.cell? ⟨pb, po, none⟩ = some (.int .i64 n) ∧ w'.cell? ⟨g, q + n * 3, none⟩ = some (.string y.1) ∧ w'.cell? ⟨g, q + n * 3 + 1, none⟩ = some (.int .i64 y.2) ∧ w'.cell? ⟨g, q + n * 3 + 2, none⟩ = some (.slice a2 (lenF l2) c2) ∧ w'.cell? ⟨w.heap.size + 1, 0, none⟩ = some (.string u.1.1) ∧ w'.cell? ⟨w.heap.size + 1, 1, none⟩ = some (.int .i64 u.1.2) ∧ w'.cell? ⟨w.heap.size + 1, 2, none⟩ = some (.slice ua (lenF u.2) uc)) ((first | (go_split_ands; refine ⟨?_, ?_, ?_, ?_, ?_, ?_, ?_, ?_⟩ <;> (refine below_cell HB2.out _ _ ?_; assumption)) | (go_split_ands; refine ⟨?_, ?_, ?_, ?_, ?_, ?_, ?_, ?_⟩ <;> (refine below_cell (HB2.out.alloc HB2.out.size _) _ _ ?_; assumption)) | (go_split_ands; refine ⟨?_, ?_, ?_, ?_, ?_, ?_, ?_, ?_⟩ <;> (refine below_cell (sets_below HB2.out (Nat.le_refl _) _ _ _) _ _ ?_; assumption)) | (go_split_ands; refine ⟨?_, ?_, ?_, ?_, ?_, ?_, ?_, ?_⟩ <;> (refine below_cell ((Below.refl _ W9).alloc (Nat.le_refl _) _) _ _ ?_; assumption)) | go_keep | fail)) ((first | (go_at_call 26; refine (HIH.out (World.drew W9) _ _ hpo.out.drew (HTail.out _ (fun _ => rfl)) (by omega) (by omega)).mono ?_; rintro e w2 ⟨a', c', rfl, hT2, hb2⟩; have HT2 : Hid (OwnTm false (fun q => W9.heap.size ≤ q) w2 xr.1 a' c' xr.2) := hT2; have HB2 : Hid (Below W9.heap.size W9 w2) := ((Below.refl _ W9).drew).trans hb2; clear hT2 hb2) | (go_at_call 26; refine (HIH.out (World.drew (World.alloc W9 (.cells #[.string ⟨#[]⟩, .int .i64 0, .slice none 0 0] 26))) _ _ (hpo.out.alloc hpo.out.size _).drew (HTail.out _ (fun _ => rfl)) (by omega) (by omega)).mono ?_; rintro e w2 ⟨a', c', rfl, hT2, hb2⟩; have HT2 : Hid (OwnTm false (fun q => W9.heap.size < q) w2 xr.1 a' c' xr.2) := hT2.mono (fun q _ hq => by rw [show (World.drew (World.alloc W9 (.cells #[.string ⟨#[]⟩, .int .i64 0, .slice none 0 0] 26))).heap.size = W9.heap.size + 1 from World.size_alloc _ _] at hq; omega); have HB2 : Hid (Below W9.heap.size W9 w2) := (((Below.refl _ W9).alloc (Nat.le_refl _) _).drew).trans (hb2.mono (by show _ ≤ (W9.alloc _).heap.size; rw [World.size_alloc]; omega)); have HX2 : Hid (XBox w2 W9.heap.size (⟨#[]⟩, 0) (.slice none 0 0)) := XBox.below (W := World.drew (World.alloc W9 (.cells #[.string ⟨#[]⟩, .int .i64 0, .slice none 0 0] 26))) (heap_alloc_new W9 _) hb2; have z0 := HX2.out.c0; have z1 := HX2.out.c1; have z2 := HX2.out.c2; have zf0 := HX2.out.f (k := 0); have zf1 := HX2.out.f (k := 1); have zf2 := HX2.out.f (k := 2); clear hT2 hb2) | fail))
            all_goals (go_wp2_with fail; go_meet)
            all_goals first
              | exact ⟨w2.heap.size, a', c', rfl, rfl, TBox.new _ _ _ _ _, HT2.out.below ((Below.refl _ _).alloc (Nat.le_refl _) _), HB2.out.alloc HB2.out.size _⟩
              | exact ⟨W9.heap.size, a', c', rfl, rfl, HX2.out.all (x := xr.1) _, (HT2.out.keep (fun q hq _ => sets_far (by omega) _ _ _)).mono (fun q _ hq => by omega), sets_below HB2.out (Nat.le_refl _) _ _ _⟩
        case rest =>
          obtain ⟨B8, a8, c8, rfl, rfl, hB8, hT8, hb8⟩ := hcut
          have HB8 : Hid (TBox wc B8 xr.1 a8 (lenF xr.2) c8) := hB8
          have HT8 : Hid (OwnTm false (fun q => W9.heap.size ≤ q) wc xr.1 a8 c8 xr.2) := hT8
          have HI8 : Hid (PutIn w t u (some ⟨g, q, none⟩) ua c uc wc) := HI3.out.below hb8
          have hsz8 := hb8.size
          clear hB8 hT8 hb8 e0 e1 e2 p1 b1 y0 y1 y2 HIH
          cases r with
          | none =>
            obtain rfl : er = 35 := HER.out.symm
            have HN : Hid (putT u ((n : Int) :: p) t = none) := put_cons_none (by omega) HU1.out HR.out
            have r0 := HI8.out.r.c0; have r1 := HI8.out.r.c1; have r2 := HI8.out.r.c2
            have f0 := HI8.out.r.f (k := 0); have f1 := HI8.out.r.f (k := 1); have f2 := HI8.out.r.f (k := 2)
            go_wp2
            refine ret_pair rfl rfl (HI8.out.r.all (x := (⟨#[]⟩, 0)) _) rfl ?_
            rw [HN.out]
            exact ⟨none, 0, rfl, (own_none _ _).own, sets_below HI8.out.low (by omega) _ _ _⟩
          | some k' =>
            obtain rfl : er = 0 := HER.out.symm
            obtain rfl : xr = k' := HXR.out.symm
            have HN : Hid (putT u ((n : Int) :: p) t = some (t.1, setF n t.2 xr)) := put_cons_some (by omega) HU1.out HR.out
            have x0 := HI8.out.t.c0; have x1 := HI8.out.t.c1; have x2 := HI8.out.t.c2
            go_wp2_with fail
            refine (rclone_any t.1 t.2 (some ⟨g, q, none⟩) c wc (HT.out.below HI8.out.low)).mono ?_
            rintro e w4 ⟨a4, c4, rfl, hR4, hb4⟩
            rcases hR4.list with hnil | ⟨g4, cur, rfl, hg4, hcur, hkids⟩
            · rw [hnil] at hge; simp [lenF] at hge
            · obtain ⟨W4, hW4⟩ : ∃ W4, w4.alloc (.cells #[.string t.1.1, .int .i64 t.1.2, .slice (some ⟨g4, 0, none⟩) (lenF t.2) c4] 26) = W4 := ⟨_, rfl⟩
              have hbW : Below w4.heap.size w4 W4 := by rw [← hW4]; exact (Below.refl _ _).alloc (Nat.le_refl _) _
              have hbC : Below wc.heap.size wc W4 := hb4.trans (hbW.mono hb4.size)
              have hg4lt : g4 < w4.heap.size := (Array.getElem?_eq_some_iff.1 hcur).1
              have hcur4 : W4.heap[g4]? = some (Obj.cells cur 26 (0, 0)) := (hbW.block g4 hg4lt).trans hcur
              have hkids4 : OwnKids false (fun q => wc.heap.size ≤ q ∧ q ≠ g4) W4 t.2 g4 0 := hkids.keep (fun k _ hlt => hbW.block k hlt) (hbW.block g4 hg4lt)
              have HB10 : Hid (TBox W4 w4.heap.size t.1 (some ⟨g4, 0, none⟩) (lenF t.2) c4) := by show TBox _ _ _ _ _ _; rw [← hW4]; exact TBox.new _ _ _ _ _
              have HI4 : Hid (PutIn w t u (some ⟨g, q, none⟩) ua c uc W4) := HI8.out.below hbC
              have HB84 : Hid (TBox W4 B8 xr.1 a8 (lenF xr.2) c8) := HB8.out.below hbC
              have hP0 : w.cell? ⟨pb, po, none⟩ = some (.int .i64 n) := by
                obtain ⟨b, off, e, hc⟩ := HP.out.cells 0 (by simp)
                cases e
                exact hc
              have p4 := below_cell HI4.out.low _ _ hP0
              obtain ⟨y4, a5, c5, l5, kd⟩ := hkids4.kids.kid (k := n) (by omega)
              have k0 := kd.name; have k1 := kd.sym; have k2 := kd.list
              rw [Nat.zero_add] at k0 k1 k2
              have hcz := cell_size hcur4 k2
              have f0 := row_frozen (i := n * 3) hcur4
              have f1 := row_frozen (i := n * 3 + 1) hcur4
              have f2 := row_frozen (i := n * 3 + 2) hcur4
              have v0 := HB84.out.c0; have v1 := HB84.out.c1; have v2 := HB84.out.c2
              have s2 := HB10.out.c2
              have hg40 : w.heap.size + 1 + 1 + 1 ≤ g4 := by omega
              have hwc := hb4.size
              obtain ⟨W5, hW5⟩ : ∃ W5, ((W4.setCell ⟨g4, n * 3, none⟩ (.string xr.1.1)).setCell ⟨g4, n * 3 + 1, none⟩ (.int .i64 xr.1.2)).setCell ⟨g4, n * 3 + 2, none⟩ (.slice a8 (lenF xr.2) c8) = W5 := ⟨_, rfl⟩
              have hlow5 : Below w.heap.size w W5 := by rw [← hW5]; exact sets_low HI4.out.low (by omega) _ _ _
              have hlowC : Below wc.heap.size wc W5 := by rw [← hW5]; exact sets_low hbC hg4 _ _ _
              have hr5 : XBox W5 (w.heap.size + 1 + 1) (⟨#[]⟩, 0) (.slice none 0 0) := by rw [← hW5]; exact (sets_elsewhere (by omega)).trans HI4.out.r
              have hB5 : TBox W5 w4.heap.size t.1 (some ⟨g4, 0, none⟩) (lenF t.2) c4 := by rw [← hW5]; exact (sets_elsewhere (by omega)).trans HB10.out
              obtain ⟨cur5, hcur5⟩ : ∃ cur5, W5.heap[g4]? = some (Obj.cells cur5 26 (0, 0)) := ⟨_, by rw [← hW5]; exact block_set (block_set (block_set hcur4 _) _) _⟩
              obtain ⟨z0, z1, z2⟩ := sets_cells (a := .string xr.1.1) (b := .int .i64 xr.1.2) (c := .slice a8 (lenF xr.2) c8) hcur4 (n := n * 3) (by omega)
              have hrep : OwnKids false (fun q => w.heap.size + 1 + 1 + 1 ≤ q) W5 (setF n t.2 xr) g4 0 := by
                have hw0 := HI8.out.low.size
                refine OwnKids.replace (W := W4) (W' := W5) (a' := a8) (c' := c8) (P := fun q => wc.heap.size ≤ q ∧ q ≠ g4) (fun k hk => by omega) (fun k hk _ => by rw [← hW5]; exact sets_elsewhere hk.2) ((HT8.out.below hlowC).mono (fun q _ hq => by have := HI3.out.low.size; omega)) n hkids4 (by omega) (fun j v _ hj hv => by rw [← hW5]; exact sets_outside (by omega) hv) ?_
                rw [Nat.zero_add, ← hW5]
                exact ⟨z0, z1, z2⟩
              have HO5 : Hid (OwnTm false (fun q => w.heap.size + 1 + 1 + 1 ≤ q) W5 t.1 (some ⟨g4, 0, none⟩) c4 (setF n t.2 xr)) := ⟨by rw [len_set]; exact hR4.sizes, .inr ⟨g4, _, rfl, by omega, hcur5, (fun e => by cases e), hrep⟩⟩
              have HR5 : Hid (XBox W5 (w.heap.size + 1 + 1) (⟨#[]⟩, 0) (.slice none 0 0)) := hr5
              have HB5 : Hid (TBox W5 w4.heap.size t.1 (some ⟨g4, 0, none⟩) (lenF t.2) c4) := hB5
              have HL5 : Hid (Below w.heap.size w W5) := hlow5
              have HW5 : Hid (((W4.setCell ⟨g4, n * 3, none⟩ (.string xr.1.1)).setCell ⟨g4, n * 3 + 1, none⟩ (.int .i64 xr.1.2)).setCell ⟨g4, n * 3 + 2, none⟩ (.slice a8 (lenF xr.2) c8) = W5) := hW5
              clear hkids4 hkids hcur hcur4 hR4 hb4 hbW hbC hlow5 hlowC hr5 hB5 hcur5 z0 z1 z2 hrep hW5 kd hP0 x0 x1 x2
              go_wp2_with (rw [hW4])
              clear hW4
              go_region
              all_goals
                have y0 : W5.drew.cell? ⟨w4.heap.size, 0, none⟩ = _ := HB5.out.c0
                have y1 : W5.drew.cell? ⟨w4.heap.size, 1, none⟩ = _ := HB5.out.c1
                have y2 : W5.drew.cell? ⟨w4.heap.size, 2, none⟩ = _ := HB5.out.c2
                have r0 : W5.drew.cell? ⟨w.heap.size + 1 + 1, 0, none⟩ = _ := HR5.out.c0
                have r1 : W5.drew.cell? ⟨w.heap.size + 1 + 1, 1, none⟩ = _ := HR5.out.c1
                have r2 : W5.drew.cell? ⟨w.heap.size + 1 + 1, 2, none⟩ = _ := HR5.out.c2
                have g0 : W5.drew.frozen? ⟨w.heap.size + 1 + 1, 0, none⟩ = _ := HR5.out.f (k := 0)
                have g1 : W5.drew.frozen? ⟨w.heap.size + 1 + 1, 1, none⟩ = _ := HR5.out.f (k := 1)
                have g2 : W5.drew.frozen? ⟨w.heap.size + 1 + 1, 2, none⟩ = _ := HR5.out.f (k := 2)
                rw [HW5.out]
                obtain ⟨W6, hW6⟩ : ∃ W6, W5.drew = W6 := ⟨_, rfl⟩
                have HO6 : Hid (OwnTm false (fun q => w.heap.size + 1 + 1 + 1 ≤ q) W6 t.1 (some ⟨g4, 0, none⟩) c4 (setF n t.2 xr)) := by show OwnTm _ _ _ _ _ _ _; rw [← hW6]; exact HO5.out.below ((Below.refl _ _).drew)
                have HR6 : Hid (XBox W6 (w.heap.size + 1 + 1) (⟨#[]⟩, 0) (.slice none 0 0)) := by show XBox _ _ _ _; rw [← hW6]; exact HR5.out
                have HL6 : Hid (Below w.heap.size w W6) := by show Below _ _ _; rw [← hW6]; exact HL5.out.drew
                rw [hW6] at y0 y1 y2 r0 r1 r2 g0 g1 g2 ⊢
                clear hW6
                go_wp2
                refine ret_pair rfl rfl (HR6.out.all (x := t.1) _) rfl ?_
                rw [HN.out]
                refine ⟨some ⟨g4, 0, none⟩, c4, (by rw [show ansV (some (t.1, setF n t.2 xr)) (some ⟨g4, 0, none⟩) c4 = .tuple #[.agg #[.string t.1.1, .int .i64 t.1.2, .slice (some ⟨g4, 0, none⟩) (lenF t.2) c4], .int .i64 0] by simp only [ansV, ansT, ansE, Option.getD_some, len_set]]; rfl), ?_, sets_below HL6.out (by omega) _ _ _⟩
                exact (HO6.out.keep (fun q hq _ => sets_far (by omega) _ _ _)).mono (fun q _ hq => by omega)
end Go.Proofs.Ytokbgbbkopmngaa
/- The document's node and Do. -/
namespace Go.Proofs.Ytokbgbbkopmngaa
open Go.RowKit Go.Deep

theorem dnode_any (S : Option Addr) (n cap : Nat) (L : List Sym) (t : Tn) (a : Option Addr) (c : Nat) (p : Sp) (pa : Option Addr) (pn pc : Nat) (w : World)
    (hS : SigAt w S n L) (hT : TmAt w t.1 a c t.2) (hn : nodesF t.2 ≤ 1048576) (hG : gathN (sgOf L) t = true → 2 ≤ lenF t.2) :
    Calls Try.prog 33 #[.slice S n cap, .agg #[.string t.1.1, .int .i64 t.1.2, .slice a (lenF t.2) c], stepV p pa pn pc] w (NodeEnd w (stepN (sgOf L) t p)) := by
  by_cases h1 : p.kind = 1
  · exact dnode_flat S n cap L t a c p pa pn pc w hS hT hn hG h1
  by_cases h2 : p.kind = 2
  · exact dnode_group S n cap L t a c p pa pn pc w hS hT hn hG h2
  by_cases h3 : p.kind = 3
  · exact dnode_swap S n cap L t a c p pa pn pc w hS hT hn hG h3
  by_cases h4 : p.kind = 4
  · exact dnode_drop S n cap L t a c p pa pn pc w hS hT hn hG h4
  by_cases h5 : p.kind = 5
  · exact dnode_grow S n cap L t a c p pa pn pc w hS hT hn hG unit_joins h5
  exact dnode_other S n cap L t a c p pa pn pc w hS hT hn hG ⟨h1, h2, h3, h4, h5⟩
theorem right_gath {L : List Sym} {t x : Tn} {ps : List Int} (h : rightB L t = true) (hs : subT ps t = some x) : gathN (sgOf L) x = true → 2 ≤ lenF x.2 := fun hg => (node_two (sub_right ps (right_facts h).2 hs) hg).1
theorem sub_few : ∀ (ps : List Int) (t x : Tn), subT ps t = some x → nodesF x.2 ≤ nodesF t.2
  | [], t, x, h => by simp only [subT, Option.some.injEq] at h; subst h; exact Nat.le_refl _
  | i :: ps, t, x, h => by
    simp only [subT] at h
    cases hk : kidT i t.2 with
    | none => rw [hk] at h; cases h
    | some k =>
      rw [hk] at h
      have h1 := sub_few ps k x h
      have h2 := nodes_get (kidT_get hk).2
      omega
/-- What the document's Do answers. -/
def RDoEnd (w : World) (r : Option (Tn × Sp)) (e : Ending) (w' : World) : Prop := ∃ a c, e = .returned (.tuple #[.agg (tmC (ansN r) a c), .int .i64 (ansC r)]) ∧ OwnTm false (fun q => w.heap.size ≤ q) w' (ansN r).1 a c (ansN r).2 ∧ Below w.heap.size w w'
theorem zero_own {N : Nat} {w : World} : OwnTm false (fun q => N ≤ q) w (⟨#[]⟩, 0) none 0 .nil := ⟨⟨by show (0 : Nat) ≤ _; exact Nat.zero_le _, Nat.le_refl _, Nat.zero_le _, Nat.zero_le _⟩, .inl ⟨rfl, rfl⟩⟩
set_option maxRecDepth 100000 in
set_option maxHeartbeats 4000000 in
theorem rdo_any (S : Option Addr) (n cap : Nat) (L : List Sym) (t : Tn) (a : Option Addr) (c : Nat) (p : Sp) (ps : List Int) (pa : Option Addr) (pn pc : Nat) (w : World)
    (hS : SigAt w S n L) (hT : TmAt w t.1 a c t.2) (hn : nodesF t.2 ≤ 1048576) (hr : rightB L t = true) (hI : IntsAt w pa pn ps) (hpn : pn ≤ 1048576) (hpc : pn ≤ pc) (hpm : pc ≤ maxLen) :
    Calls Try.prog 14 #[.slice S n cap, .agg #[.string t.1.1, .int .i64 t.1.2, .slice a (lenF t.2) c], stepV p pa pn pc] w (RDoEnd w (stepT (sgOf L) t ps p)) := by
  obtain ⟨kd, at_, many, sym⟩ := p
  obtain ⟨W0, hW0⟩ : ∃ W0, ((w.alloc (.cells #[.string t.1.1, .int .i64 t.1.2, .slice a (lenF t.2) c] 26)).alloc (.cells #[.int .i64 kd, .slice pa pn pc, .int .i64 at_, .int .i64 many, .int .i64 sym] 39)).alloc (.cells #[.string ⟨#[]⟩, .int .i64 0, .slice none 0 0] 26) = W0 := ⟨_, rfl⟩
  have hb0 : Below w.heap.size w W0 := by rw [← hW0]; exact ((alloc_below0 w _).alloc (by simp) _).alloc (by simp; omega) _
  have B0 : Box W0 w.heap.size 26 (tmC t a c) := by rw [← hW0]; exact ((Box.new w 26 _).over _).over _
  have B1 : Box W0 (w.heap.size + 1) 39 (stepC ⟨kd, at_, many, sym⟩ pa pn pc) := by rw [← hW0]; exact (box_new (by rw [World.size_alloc]) 39 _).over _
  have B2 : Box W0 (w.heap.size + 2) 26 (tmC ((⟨#[]⟩, 0), .nil) none 0) := by rw [← hW0]; exact box_new (by rw [World.size_alloc, World.size_alloc]) 26 _
  have hsz : W0.heap.size = w.heap.size + 3 := by rw [← hW0]; simp
  have hst0 : NSt0 w t a c ⟨kd, at_, many, sym⟩ pa pn pc W0 := ⟨hb0, B0, B1, B2, by omega⟩
  have HAt := hid (rat_any ps t a c pa pn pc W0 (hT.below hb0) (hI.below hb0) (by omega))
  have d0 := B0.v (k := 0) rfl; have d1 := B0.v (k := 1) rfl; have d2 := B0.v (k := 2) rfl; have x1 := B1.v (k := 1) rfl
  have HST0 := hid hst0; have HS := hid hS; have HT := hid hT; have HN := hid hn; have HR := hid hr; have HI := hid hI; have HPC := hid hpc; have HPM := hid hpm
  clear hb0 B0 B1 B2 hsz hst0 hS hT hn hr hI hpc hpm
  go_enter Try.func14, Try.ntmps14
  go_wp2_with fail
  clear hW0
  refine HAt.out.mono ?_
  rintro e w3 ⟨a', c', he, hT3, hb3⟩
  unfold ansV at he
  obtain ⟨X, hX⟩ : ∃ X, ansT (subT ps t) = X := ⟨_, rfl⟩
  obtain ⟨E, hE⟩ : ∃ E, ansE (subT ps t) = E := ⟨_, rfl⟩
  rw [hX, hE] at he
  rw [hX] at hT3
  subst he
  obtain ⟨V, hV⟩ : ∃ V, w3.alloc (.cells #[.string X.1.1, .int .i64 X.1.2, .slice a' (lenF X.2) c'] 26) = V := ⟨_, rfl⟩
  have hbV3 : Below w3.heap.size w3 V := by rw [← hV]; exact alloc_below0 _ _
  have hBX : Box V w3.heap.size 26 (tmC X a' c') := by rw [← hV]; exact Box.new _ _ _
  have hst := (HST0.out.below hb3).below hbV3
  have HST := hid hst; have HTX := hid (hT3.below hbV3); have HXX := hid hX; have HEE := hid hE
  have z0 := hst.r.v (k := 0) rfl; have z1 := hst.r.v (k := 1) rfl; have z2 := hst.r.v (k := 2) rfl
  have f0 := hst.r.f 0; have f1 := hst.r.f 1; have f2 := hst.r.f 2
  have s0 := hst.x.v (k := 0) rfl; have s1 := hst.x.v (k := 1) rfl; have s2 := hst.x.v (k := 2) rfl; have s3 := hst.x.v (k := 3) rfl; have s4 := hst.x.v (k := 4) rfl
  have b0 := hBX.v (k := 0) rfl; have b1 := hBX.v (k := 1) rfl; have b2 := hBX.v (k := 2) rfl
  clear hT3 hb3 hX hE hbV3 hBX hst d0 d1 d2 x1 HST0 HAt
  cases hsub : subT ps t with
  | none =>
    have hE0 : E = 35 := by rw [← HEE.out, hsub]; rfl
    subst hE0
    have HNO : Hid (stepT (sgOf L) t ps ⟨kd, at_, many, sym⟩ = none) := stepT_none hsub
    clear hsub
    go_wp2_with fail
    refine ret_term rfl rfl (sets3_box HST.out.r _ _ _) rfl rfl ?_
    rw [HNO.out]
    exact ⟨none, 0, rfl, zero_own, HST.out.low.trans ((sets3_fr (B := w.heap.size + 2) _ _ _).below (fun k hk => by omega) HST.out.low.size)⟩
  | some x =>
    have hE0 : E = 0 := by rw [← HEE.out, hsub]; rfl
    have hX0 : X = x := by rw [← HXX.out, hsub]; rfl
    subst hE0 hX0
    have HSUB := hid hsub
    have HND := hid (dnode_any S n cap L X a' c' ⟨kd, at_, many, sym⟩ pa pn pc V (HS.out.below HST.out.low) HTX.out (Nat.le_trans (sub_few _ _ _ hsub) HN.out) (right_gath HR.out hsub))
    obtain ⟨r, hr⟩ : ∃ r, stepN (sgOf L) X ⟨kd, at_, many, sym⟩ = r := ⟨_, rfl⟩
    rw [hr] at HND
    have HRR := hid hr
    clear hsub hr z0 z1 z2 f0 f1 f2
    go_wp2_with fail
    refine HND.out.mono ?_
    rintro e w4 ⟨y, ya, yc, rfl, hy, hb4⟩
    obtain ⟨V4, hV4⟩ : ∃ V4, w4.alloc (.cells #[.string y.1.1, .int .i64 y.1.2, .slice ya (lenF y.2) yc] 26) = V4 := ⟨_, rfl⟩
    have hb44 : Below w4.heap.size w4 V4 := by rw [← hV4]; exact alloc_below0 _ _
    have hBY : Box V4 w4.heap.size 26 (tmC y ya yc) := by rw [← hV4]; exact Box.new _ _ _
    have hst4 := (HST.out.below hb4).below hb44
    have HST4 := hid hst4; have HY := hid hy; have HB44 := hid hb44
    have z0 := hst4.r.v (k := 0) rfl; have z1 := hst4.r.v (k := 1) rfl; have z2 := hst4.r.v (k := 2) rfl
    have f0 := hst4.r.f 0; have f1 := hst4.r.f 1; have f2 := hst4.r.f 2
    have n0 := hst4.n.v (k := 0) rfl; have n1 := hst4.n.v (k := 1) rfl; have n2 := hst4.n.v (k := 2) rfl
    have v1 := hst4.x.v (k := 1) rfl
    have y0 := hBY.v (k := 0) rfl; have y1 := hBY.v (k := 1) rfl; have y2 := hBY.v (k := 2) rfl
    clear hb44 hBY hst4 hb4 s0 s1 s2 s3 s4 b0 b1 b2 HST hy
    cases hrr : r with
    | none =>
      have HNO : Hid (stepT (sgOf L) t ps ⟨kd, at_, many, sym⟩ = none) := by show _ = _; unfold stepT; rw [HSUB.out]; simp only; rw [HRR.out, hrr]
      clear hrr
      go_wp2_with fail
      refine ret_term rfl rfl (sets3_box HST4.out.r _ _ _) rfl rfl ?_
      rw [HNO.out]
      exact ⟨none, 0, rfl, zero_own, HST4.out.low.trans ((sets3_fr (B := w.heap.size + 2) _ _ _).below (fun k hk => by omega) HST4.out.low.size)⟩
    | some s =>
      obtain ⟨hy1, hyO⟩ := HY.out s hrr
      obtain ⟨yy, hyy⟩ := put_some s.1 ps t X HSUB.out
      have HYS : Hid (stepT (sgOf L) t ps ⟨kd, at_, many, sym⟩ = some (yy, s.2)) := by show _ = _; unfold stepT; rw [HSUB.out]; simp only; rw [HRR.out, hrr]; simp only; rw [hyy]; rfl
      have hput := rput_all ps t y a ya c yc pa pn pc V4 (HT.out.below HST4.out.low) (hyO.tm.below HB44.out) (HI.out.below HST4.out.low) HPC.out HPM.out
      have HPUT := hid hput
      have HYY : Hid (putT y ps t = some yy) := by show _ = _; rw [hy1]; exact hyy
      clear hrr hy1 hyO hyy hput
      go_wp2_with fail
      refine HPUT.out.mono ?_
      rintro e w8 ⟨a8, c8, he8, hO8, hb8⟩
      have he8' : e = .returned (.tuple #[.agg #[.string yy.1.1, .int .i64 yy.1.2, .slice a8 (lenF yy.2) c8], .int .i64 0]) := by rw [he8, HYY.out]; rfl
      subst he8'
      have hO8' : OwnTm false (fun q => V4.heap.size ≤ q) w8 yy.1 a8 c8 yy.2 := by have := hO8; rw [HYY.out] at this; exact this
      obtain ⟨V8, hV8⟩ : ∃ V8, w8.alloc (.cells #[.string yy.1.1, .int .i64 yy.1.2, .slice a8 (lenF yy.2) c8] 26) = V8 := ⟨_, rfl⟩
      have hb88 : Below w8.heap.size w8 V8 := by rw [← hV8]; exact alloc_below0 _ _
      have hB8 : Box V8 w8.heap.size 26 (tmC yy a8 c8) := by rw [← hV8]; exact Box.new _ _ _
      have hst8 := (HST4.out.below hb8).below hb88
      have HST8 := hid hst8; have HO8 := hid (hO8'.below hb88)
      clear z0 z1 z2 f0 f1 f2 n0 n1 n2 v1 y0 y1 y2
      have z0 := hst8.r.v (k := 0) rfl; have z1 := hst8.r.v (k := 1) rfl; have z2 := hst8.r.v (k := 2) rfl
      have f0 := hst8.r.f 0; have f1 := hst8.r.f 1; have f2 := hst8.r.f 2
      have o0 := hB8.v (k := 0) rfl; have o1 := hB8.v (k := 1) rfl; have o2 := hB8.v (k := 2) rfl
      clear he8 hO8 hO8' hb8 hb88 hB8 hst8
      go_wp2_with fail
      refine ret_term rfl rfl (sets3_box HST8.out.r _ _ _) rfl rfl ?_
      rw [HYS.out]
      have hs4 := HST4.out.sz
      exact ⟨a8, c8, rfl, (HO8.out.keep (fun q hq hl => (sets3_fr (B := w.heap.size + 2) _ _ _).same q hl (by omega))).mono (fun q _ hq => by omega), HST8.out.low.trans ((sets3_fr (B := w.heap.size + 2) _ _ _).below (fun k hk => by omega) HST8.out.low.size)⟩
end Go.Proofs.Ytokbgbbkopmngaa
/- The document's Back. -/
namespace Go.Proofs.Ytokbgbbkopmngaa
open Go.RowKit Go.Deep

theorem step_append_run2 {P : Program} {ops : Array Oper} {o : Oper} {a : Act} {w : World} {K : Act → World → Prop} {Q : Exit → Act → World → Prop} {E : Prop} (hgd : o.guard = none) (s x : Operand) (t : TypeId)
    (ho : o.op = .call { callee := .builtin .append, args := #[s, x], argTypes := #[t, t] }) (vs vx : Value) (hs : a.eval s = vs) (hx : a.eval x = vx)
    (v' : Value) (w' : World) (hr : (Builtin.append_ #[t, t] o.type #[vs, vx]).run P w = .ok v' w') (h : K (a.put o.dst v') w') :
    if Region.wanted o (yielded ops a.tmps) = true then Oper.wp P o a w K Q else E := by
  have hw : Region.wanted o (yielded ops a.tmps) = true := by simp [Region.wanted, hgd]
  rw [if_pos hw]
  exact Lib.wp_append_run w s x t t ho vs vx hs hx v' w' hr h
/-- Numbers behind a new empty list, in whatever world it lies. -/
theorem app_new {V W : World} {g : Nat} {pa : Option Addr} {pn pc : Nat} {ps : List Int} (hI : IntsAt V pa pn ps) (hb : Below V.heap.size V W) (hg : W.heap[g]? = some (.cells #[] 3 (0, 0))) (hlo : V.heap.size ≤ g) (hp : pn ≤ 1048576) :
    ∃ a2 c2 w', (∀ ty, (Builtin.append_ #[37, 37] ty #[.slice (some ⟨g, 0, none⟩) 0 0, .slice pa pn pc]).run Try.prog W = .ok (.slice a2 pn c2) w') ∧ IntsAt w' a2 pn ps ∧ pn ≤ c2 ∧ c2 ≤ maxLen ∧ Below V.heap.size V w' ∧ (∀ ad, a2 = some ad → ∃ cur, w'.heap[ad.block]? = some (.cells cur 3 (0, 0))) ∧ (∀ q, q < W.heap.size → q ≠ g → w'.heap[q]? = W.heap[q]?) ∧ W.heap.size ≤ w'.heap.size := by
  have hglt : g < W.heap.size := (Array.getElem?_eq_some_iff.1 hg).1
  have hE : W.ownsRow g 3 1 (.slice (some ⟨g, 0, none⟩) 0 0) 0 [] := ⟨rfl, .inr ⟨g, 0, #[], rfl, Nat.le_refl _, hg, Nat.le_refl _, Nat.zero_le _, rfl, rfl⟩⟩
  obtain ⟨v', w', hr, hA, hG⟩ := app_ints (pc := pc) 37 hE (hI.below hb) (by omega) (by omega) (Nat.le_of_lt hglt)
  rw [List.nil_append, Nat.zero_add] at hA
  have hr2 : ∀ ty, (Builtin.append_ #[37, 37] ty #[.slice (some ⟨g, 0, none⟩) 0 0, .slice pa pn pc]).run Try.prog W = .ok v' w' := fun ty => hr
  obtain ⟨a2, c2, rfl, h1, h2, h3, h4⟩ := ints_of_owns hA hI.len
  refine ⟨a2, c2, w', hr2, h1, h2, h3, below_grown hb hG (fun k hk => by have h7 : some g = some k := hk; have := Option.some.inj h7; omega), fun ad e => ?_, fun q hq hne => hG.block q hq (fun e => hne (by have e : some q = some g := e; exact Option.some.inj e)), hG.size⟩
  subst e
  rcases hA.2 with ⟨e1, _⟩ | ⟨g2, cap, cur, e1, hg2, hh, _⟩
  · cases e1
  · cases e1
    exact ⟨cur, hh⟩
theorem ints_apart {w w' : World} {a : Option Addr} {n B : Nat} {ps : List Int} {cs : Array Value} (h : IntsAt w a n ps) (hc : ∀ ad, a = some ad → ∃ cur, w.heap[ad.block]? = some (.cells cur 3 (0, 0))) (hB : Box w B 39 cs) (hk : ∀ q, q ≠ B → w'.heap[q]? = w.heap[q]?) : IntsAt w' a n ps :=
  h.keep (fun ad e => hk _ (fun eb => by
    obtain ⟨cur, h1⟩ := hc ad e
    rw [eb, show w.heap[B]? = _ from hB] at h1
    cases h1))
theorem cells_apart {w w' : World} {a : Option Addr} {B : Nat} {cs : Array Value} (hc : ∀ ad, a = some ad → ∃ cur, w.heap[ad.block]? = some (.cells cur 3 (0, 0))) (hB : Box w B 39 cs) (hk : ∀ q, q ≠ B → w'.heap[q]? = w.heap[q]?) : ∀ ad, a = some ad → ∃ cur, w'.heap[ad.block]? = some (.cells cur 3 (0, 0)) := fun ad e => by
  obtain ⟨cur, h1⟩ := hc ad e
  refine ⟨cur, (hk _ (fun eb => ?_)).trans h1⟩
  rw [eb, show w.heap[B]? = _ from hB] at h1
  cases h1
/-- What the document's Back answers. -/
def RBackEnd (w : World) (pn : Nat) (ps : List Int) (r : Option (Tn × Sp)) (e : Ending) (w' : World) : Prop := ∃ q m d, e = .returned (.tuple #[stepV (ansSp r) q m d, .int .i64 (ansC r)]) ∧ (r ≠ none → m = pn ∧ IntsAt w' q m ps ∧ ∀ ad, q = some ad → ∃ cur, w'.heap[ad.block]? = some (.cells cur 3 (0, 0))) ∧ (r = none → q = none ∧ m = 0 ∧ d = 0) ∧ Below w.heap.size w w'
/-- The step under way. -/
structure RbSt (w : World) (B : Nat) (q : Option Addr) (pn d : Nat) (ps : List Int) (k a m s : Int) (V : World) : Prop where
  low : Below w.heap.size w V
  box : Box V B 39 #[.int .i64 k, .slice q pn d, .int .i64 a, .int .i64 m, .int .i64 s]
  lo : w.heap.size + 2 < B
  ints : IntsAt V q pn ps
  cells : ∀ ad, q = some ad → ∃ cur, V.heap[ad.block]? = some (.cells cur 3 (0, 0))
  res : Box V (w.heap.size + 2) 39 (stepC zSp none 0 0)
theorem RbSt.set {w : World} {B : Nat} {q : Option Addr} {pn d : Nat} {ps : List Int} {k a m s : Int} {V : World} (h : RbSt w B q pn d ps k a m s V) {i : Nat} {v : Value} {k' a' m' s' : Int} (hv : (#[.int .i64 k, .slice q pn d, .int .i64 a, .int .i64 m, .int .i64 s] : Array Value).setIfInBounds i v = #[.int .i64 k', .slice q pn d, .int .i64 a', .int .i64 m', .int .i64 s']) : RbSt w B q pn d ps k' a' m' s' (V.setCell ⟨B, i, none⟩ v) := by
  have hlo := h.lo
  have hF : Fr (fun q => q = B) V (V.setCell ⟨B, i, none⟩ v) := set1_fr v
  refine ⟨h.low.trans (hF.below (fun k hk => by omega) h.low.size), by have := h.box.set i v; rw [hv] at this; exact this, hlo, ints_apart h.ints h.cells h.box (fun q hq => set_far hq _), fun ad e => ?_, h.res.fr hF (by omega)⟩
  obtain ⟨cur, h1⟩ := h.cells ad e
  refine ⟨cur, (set_far (fun eb => ?_) _).trans h1⟩
  rw [eb, show V.heap[B]? = _ from h.box] at h1
  cases h1
end Go.Proofs.Ytokbgbbkopmngaa
/- The step that leads back, plainly: by the kind. -/
namespace Go.Proofs.Ytokbgbbkopmngaa
open Go.RowKit Go.Deep

def bkN (t : Tn) (p : Sp) : Sp :=
  if p.kind = 1 then ⟨2, p.at_, (match (kidsL t.2)[p.at_.toNat]? with | some y => (lenF y.2 : Int) | none => 0), 0⟩
  else if p.kind = 2 then ⟨1, p.at_, 0, 0⟩
  else if p.kind = 3 then ⟨3, p.at_, 0, 0⟩
  else if p.kind = 4 then ⟨5, p.at_, (if lenF t.2 = 2 then 1 else 0), t.1.2⟩
  else ⟨4, p.at_, 0, 0⟩
theorem stepN_back {S : Sg} {t t' : Tn} {p q : Sp} (h : stepN S t p = some (t', q)) : q = bkN t p ∧ (p.kind = 1 ∨ p.kind = 2 ∨ p.kind = 3 ∨ p.kind = 4 ∨ p.kind = 5) := by
  unfold stepN at h
  unfold bkN
  split at h
  · rename_i h5
    rw [if_neg (by omega), if_neg (by omega), if_neg (by omega), if_neg (by omega)]
    refine ⟨?_, by omega⟩
    unfold growN at h
    cases hu : S.unit p.sym with
    | none => rw [hu] at h; cases h
    | some u =>
      rw [hu] at h
      simp only at h
      split at h
      · split at h
        · obtain ⟨_, rfl⟩ := Prod.mk.inj (Option.some.inj h); rfl
        · cases h
      · split at h
        · split at h
          · obtain ⟨_, rfl⟩ := Prod.mk.inj (Option.some.inj h); rfl
          · cases h
        · cases h
  · split at h
    · split at h
      · rename_i h1
        rw [if_pos h1]
        refine ⟨?_, .inl h1⟩
        unfold flatN at h
        cases hy : (kidsL t.2)[p.at_.toNat]? with
        | none => rw [hy] at h; cases h
        | some y =>
          rw [hy] at h
          simp only at h
          split at h
          · obtain ⟨_, rfl⟩ := Prod.mk.inj (Option.some.inj h); rfl
          · cases h
      · rename_i h1
        rw [if_neg h1]
        split at h
        · rename_i h2
          rw [if_pos h2]
          refine ⟨?_, .inr (.inl h2)⟩
          unfold groupN at h
          split at h
          · obtain ⟨_, rfl⟩ := Prod.mk.inj (Option.some.inj h); rfl
          · cases h
        · rename_i h2
          rw [if_neg h2]
          split at h
          · rename_i h3
            rw [if_pos h3]
            refine ⟨?_, .inr (.inr (.inl h3))⟩
            unfold swapN at h
            cases hy : (kidsL t.2)[p.at_.toNat]? with
            | none => rw [hy] at h; cases h
            | some y =>
              cases hz : (kidsL t.2)[p.at_.toNat + 1]? with
              | none => rw [hy, hz] at h; cases h
              | some z =>
                rw [hy, hz] at h
                obtain ⟨_, rfl⟩ := Prod.mk.inj (Option.some.inj h); rfl
          · rename_i h3
            rw [if_neg h3]
            split at h
            · rename_i h4
              rw [if_pos h4]
              refine ⟨?_, .inr (.inr (.inr (.inl h4)))⟩
              split at h
              · unfold dropN at h
                cases hy : (kidsL t.2)[p.at_.toNat]? with
                | none => rw [hy] at h; cases h
                | some y =>
                  rw [hy] at h
                  simp only at h
                  split at h
                  · split at h
                    · rename_i hl
                      cases hz : (kidsL t.2)[1 - p.at_.toNat]? with
                      | none => rw [hz] at h; cases h
                      | some z =>
                        rw [hz] at h
                        obtain ⟨_, rfl⟩ := Prod.mk.inj (Option.some.inj h)
                        rw [if_pos hl]
                    · rename_i hl
                      obtain ⟨_, rfl⟩ := Prod.mk.inj (Option.some.inj h)
                      rw [if_neg hl]
                  · cases h
              · cases h
            · cases h
    · cases h
end Go.Proofs.Ytokbgbbkopmngaa
/- The document's Back: the walk. -/
namespace Go.Proofs.Ytokbgbbkopmngaa
open Go.RowKit Go.Deep

theorem step_in {S : Sg} {t : Tn} {p : Sp} {r : Tn × Sp} (hk : p.kind ≠ 5) (h : stepN S t p = some r) : ∃ k : Nat, p.at_ = k ∧ k < lenF t.2 := by
  unfold stepN at h
  rw [if_neg hk] at h
  split at h
  · rename_i hg
    obtain ⟨k, e, hlt⟩ := inI_iff.1 hg.2
    exact ⟨k, e, hlt⟩
  · cases h
theorem cell_set {w : World} {B b i k : Nat} {v : Value} (h : b ≠ B) : (w.setCell ⟨B, i, none⟩ v).cell? ⟨b, k, none⟩ = w.cell? ⟨b, k, none⟩ := World.cell?_of_block (set_far h v)
theorem cell_of_far {w w' : World} {b k : Nat} (h : w'.heap[b]? = w.heap[b]?) : w'.cell? ⟨b, k, none⟩ = w.cell? ⟨b, k, none⟩ := World.cell?_of_block h
theorem new_two (V : World) (a b : Obj) : ((V.alloc a).alloc b).drew.heap[V.heap.size + 1]? = some b := by
  rw [← World.size_alloc V a]
  exact World.alloc_heap_new _ _
theorem rb_sets {w V w' : World} {B : Nat} {q : Option Addr} {d pn : Nat} {ps : List Int} {at_ : Int} (hl : Below w.heap.size w V) (hsz : w.heap.size + 3 ≤ V.heap.size) (hb : Below V.heap.size V w') (hB : V.heap.size ≤ B) (box : Box w' B 39 (stepC zSp none 0 0)) (ints : IntsAt w' q pn ps) (cells : ∀ ad, q = some ad → ∃ cur, w'.heap[ad.block]? = some (.cells cur 3 (0, 0))) (res : Box V (w.heap.size + 2) 39 (stepC zSp none 0 0)) :
    RbSt w B q pn d ps 0 at_ 0 0 (((((w'.setCell ⟨B, 0, none⟩ (.int .i64 0)).setCell ⟨B, 1, none⟩ (.slice q pn d)).setCell ⟨B, 2, none⟩ (.int .i64 at_)).setCell ⟨B, 3, none⟩ (.int .i64 0)).setCell ⟨B, 4, none⟩ (.int .i64 0)) := by
  have h1 := hl.trans (hb.mono hl.size)
  refine ⟨sets5_below h1 (by omega) _ _ _ _ _, sets5_box box _ _ _ _ _, by omega, ints_apart ints cells box (fun q hq => sets5_far hq _ _ _ _ _), fun ad e => ?_, (sets5_far (by omega) _ _ _ _ _).trans (res.below hb)⟩
  obtain ⟨cur, hc⟩ := cells ad e
  refine ⟨cur, (sets5_far (fun eb => ?_) _ _ _ _ _).trans hc⟩
  rw [eb, show w'.heap[B]? = _ from box] at hc
  cases hc
theorem rb_alloc {w V w' : World} {q : Option Addr} {d pn : Nat} {ps : List Int} {at_ : Int} (hl : Below w.heap.size w V) (hsz : w.heap.size + 3 ≤ V.heap.size) (hb : Below V.heap.size V w') (ints : IntsAt w' q pn ps) (cells : ∀ ad, q = some ad → ∃ cur, w'.heap[ad.block]? = some (.cells cur 3 (0, 0))) (res : Box V (w.heap.size + 2) 39 (stepC zSp none 0 0)) :
    RbSt w w'.heap.size q pn d ps 0 at_ 0 0 (w'.alloc (.cells #[.int .i64 0, .slice q pn d, .int .i64 at_, .int .i64 0, .int .i64 0] 39)) := by
  have h1 := hl.trans (hb.mono hl.size)
  have hs := hb.size
  have ha := alloc_below0 w' (.cells #[.int .i64 0, .slice q pn d, .int .i64 at_, .int .i64 0, .int .i64 0] 39)
  refine ⟨h1.trans (ha.mono h1.size), Box.new _ _ _, by omega, ints.below ha, fun ad e => ?_, (res.below hb).below ha⟩
  obtain ⟨cur, hc⟩ := cells ad e
  exact ⟨cur, (ha.block _ (Array.getElem?_eq_some_iff.1 hc).1).trans hc⟩
set_option maxRecDepth 100000 in
set_option maxHeartbeats 4000000 in
theorem rback_any (S : Option Addr) (n cap : Nat) (L : List Sym) (t : Tn) (a : Option Addr) (c : Nat) (p : Sp) (ps : List Int) (pa : Option Addr) (pn pc : Nat) (w : World)
    (hS : SigAt w S n L) (hT : TmAt w t.1 a c t.2) (hn : nodesF t.2 ≤ 1048576) (hr : rightB L t = true) (hI : IntsAt w pa pn ps) (hpn : pn ≤ 1048576) (hpc : pn ≤ pc) (hpm : pc ≤ maxLen) :
    Calls Try.prog 15 #[.slice S n cap, .agg #[.string t.1.1, .int .i64 t.1.2, .slice a (lenF t.2) c], stepV p pa pn pc] w (RBackEnd w pn ps (stepT (sgOf L) t ps p)) := by
  obtain ⟨kd, at_, many, sym⟩ := p
  obtain ⟨W0, hW0⟩ : ∃ W0, ((w.alloc (.cells #[.string t.1.1, .int .i64 t.1.2, .slice a (lenF t.2) c] 26)).alloc (.cells #[.int .i64 kd, .slice pa pn pc, .int .i64 at_, .int .i64 many, .int .i64 sym] 39)).alloc (.cells #[.int .i64 0, .slice none 0 0, .int .i64 0, .int .i64 0, .int .i64 0] 39) = W0 := ⟨_, rfl⟩
  have hb0 : Below w.heap.size w W0 := by rw [← hW0]; exact ((alloc_below0 w _).alloc (by simp) _).alloc (by simp; omega) _
  have B0 : Box W0 w.heap.size 26 (tmC t a c) := by rw [← hW0]; exact ((Box.new w 26 _).over _).over _
  have B1 : Box W0 (w.heap.size + 1) 39 (stepC ⟨kd, at_, many, sym⟩ pa pn pc) := by rw [← hW0]; exact (box_new (by rw [World.size_alloc]) 39 _).over _
  have B2 : Box W0 (w.heap.size + 2) 39 (stepC zSp none 0 0) := by rw [← hW0]; exact box_new (by rw [World.size_alloc, World.size_alloc]) 39 _
  have hsz : W0.heap.size = w.heap.size + 3 := by rw [← hW0]; simp
  obtain ⟨r, hrr⟩ : ∃ r, stepT (sgOf L) t ps ⟨kd, at_, many, sym⟩ = r := ⟨_, rfl⟩
  have hD := rdo_any S n cap L t a c ⟨kd, at_, many, sym⟩ ps pa pn pc W0 (hS.below hb0) (hT.below hb0) hn hr (hI.below hb0) hpn hpc hpm
  rw [hrr] at hD ⊢
  have d0 := B0.v (k := 0) rfl; have d1 := B0.v (k := 1) rfl; have d2 := B0.v (k := 2) rfl
  have x0 := B1.v (k := 0) rfl; have x1 := B1.v (k := 1) rfl; have x2 := B1.v (k := 2) rfl; have x3 := B1.v (k := 3) rfl; have x4 := B1.v (k := 4) rfl
  have HD := hid hD; have HB0 := hid hb0; have HX0 := hid B0; have HX1 := hid B1; have HX2 := hid B2; have HSZ := hid hsz; have HT := hid hT; have HI := hid hI; have HRR := hid hrr
  clear hD hb0 B0 B1 B2 hsz hS hT hI hrr hn hr hpc hpm
  go_enter Try.func15, Try.ntmps15
  go_wp2_with fail
  clear hW0
  refine HD.out.mono ?_
  rintro e w1 ⟨a1, c1, he1, hO1, hb1⟩
  obtain ⟨y, hy⟩ : ∃ y, ansN r = y := ⟨_, rfl⟩
  obtain ⟨ec, hec⟩ : ∃ ec, ansC r = ec := ⟨_, rfl⟩
  rw [hy, hec] at he1
  subst he1
  obtain ⟨V1, hV1⟩ : ∃ V1, w1.alloc (.cells #[.string y.1.1, .int .i64 y.1.2, .slice a1 (lenF y.2) c1] 26) = V1 := ⟨_, rfl⟩
  have hb11 : Below w1.heap.size w1 V1 := by rw [← hV1]; exact alloc_below0 _ _
  have hb01 : Below W0.heap.size W0 V1 := hb1.trans (hb11.mono hb1.size)
  have hl1 : Below w.heap.size w V1 := HB0.out.trans (hb01.mono HB0.out.size)
  have X0 := HX0.out.below hb01; have X1 := HX1.out.below hb01; have X2 := HX2.out.below hb01
  have HX0 := hid X0; have HX1 := hid X1; have HX2 := hid X2; have HL1 := hid hl1
  have hs1 : w.heap.size + 3 ≤ V1.heap.size := by have := HSZ.out; have := hb01.size; omega
  have HS1 := hid hs1; have HEC := hid hec
  clear d0 d1 d2 x0 x1 x2 x3 x4 hO1 hb1 hb11 hb01 hy hec hl1 hs1
  cases hrr : r with
  | none =>
    have e1 : ec = 81 := by rw [← HEC.out, hrr]; rfl
    subst e1 hrr
    have z0 := X2.v (k := 0) rfl; have z1 := X2.v (k := 1) rfl; have z2 := X2.v (k := 2) rfl; have z3 := X2.v (k := 3) rfl; have z4 := X2.v (k := 4) rfl
    have f0 := X2.f 0; have f1 := X2.f 1; have f2 := X2.f 2; have f3 := X2.f 3; have f4 := X2.f 4
    clear X0 X1 X2
    go_wp2_with fail
    refine ret_step rfl rfl (sets5_box HX2.out _ _ _ _ _) rfl rfl ?_
    exact ⟨none, 0, 0, rfl, fun h => absurd rfl h, fun _ => ⟨rfl, rfl, rfl⟩, sets5_below HL1.out (by omega) _ _ _ _ _⟩
  | some s =>
    have e1 : ec = 0 := by rw [← HEC.out, hrr]; rfl
    subst e1 hrr
    obtain ⟨X, X', hs1, hs2, hs3⟩ := stepT_some (t' := s.1) (q := s.2) HRR.out
    have HSUB := hid hs1; have HBK := hid (stepN_back hs2); have HS2 := hid hs2
    have n0 := X0.v (k := 0) rfl; have n1 := X0.v (k := 1) rfl; have n2 := X0.v (k := 2) rfl
    have x1 := X1.v (k := 1) rfl
    have HAt := hid (rat_any ps t a c pa pn pc V1 (HT.out.below HL1.out) (HI.out.below HL1.out) (by omega))
    clear X0 X1 X2 hs1 hs2 hs3
    go_wp2_with fail
    refine HAt.out.mono ?_
    rintro e w3 ⟨a', c', he, hT3, hb3⟩
    unfold ansV at he
    rw [HSUB.out] at he hT3
    have he' : e = .returned (.tuple #[.agg #[.string X.1.1, .int .i64 X.1.2, .slice a' (lenF X.2) c'], .int .i64 0]) := he
    subst he'
    obtain ⟨V, hV⟩ : ∃ V, w3.alloc (.cells #[.string X.1.1, .int .i64 X.1.2, .slice a' (lenF X.2) c'] 26) = V := ⟨_, rfl⟩
    have hb33 : Below w3.heap.size w3 V := by rw [← hV]; exact alloc_below0 _ _
    have N3 : Box V w3.heap.size 26 (tmC X a' c') := by rw [← hV]; exact Box.new _ _ _
    have hb13 : Below V1.heap.size V1 V := hb3.trans (hb33.mono hb3.size)
    have hl3 : Below w.heap.size w V := HL1.out.trans (hb13.mono HL1.out.size)
    have hTX : TmAt V X.1 a' c' X.2 := TmAt.below (show TmAt w3 X.1 a' c' X.2 from hT3) hb33
    have X1 := HX1.out.below hb13; have X2 := HX2.out.below hb13
    have HN3 := hid N3; have HL3 := hid hl3; have HTX := hid hTX; have HX1 := hid X1; have HX2 := hid X2
    have HVS : Hid (w.heap.size + 3 ≤ V.heap.size) := Nat.le_trans HS1.out hb13.size
    have HIV := hid (HI.out.below hl3)
    obtain ⟨aA, cA, wA, hrA, hIA, hcA, hmA, hbA, hneA, hsA, hzA⟩ := app_new (V := V) (W := (V.alloc (.cells #[] 3)).drew) (g := V.heap.size) (pc := pc) HIV.out (alloc_below0 V _).drew (World.alloc_heap_new V _) (Nat.le_refl _) hpn
    obtain ⟨aB, cB, wB, hrB, hIB, hcB, hmB, hbB, hneB, hsB, hzB⟩ := app_new (V := V) (W := ((V.alloc (.cells #[.int .i64 0, .slice none 0 0, .int .i64 0, .int .i64 0, .int .i64 0] 39)).alloc (.cells #[] 3)).drew) (g := V.heap.size + 1) (pc := pc) HIV.out ((alloc_below0 V _).alloc (by simp) _).drew (new_two V _ _) (by omega) hpn
    obtain ⟨aC, cC, wC, hrC, hIC, hcC, hmC, hbC, hneC, hsC, hzC⟩ := app_new (V := V) (W := ((V.alloc (.cells #[] 3)).alloc (.cells #[.int .i64 0, .slice none 0 0, .int .i64 0, .int .i64 0, .int .i64 0] 39)).drew) (g := V.heap.size) (pc := pc) HIV.out ((alloc_below0 V _).alloc (by simp) _).drew ((Box.new V 3 #[]).over _) (Nat.le_refl _) hpn
    have HIA := hid hIA; have HBA := hid hbA; have HNA := hid hneA
    have HIB := hid hIB; have HBB := hid hbB; have HNB := hid hneB
    have HIC := hid hIC; have HBC := hid hbC; have HNC := hid hneC
    have bB : Box wB V.heap.size 39 (stepC zSp none 0 0) := (hsB V.heap.size (by show _ < ((V.alloc _).alloc _).heap.size; rw [World.size_alloc, World.size_alloc]; omega) (by omega)).trans ((Box.new V 39 _).over _)
    have bC : Box wC (V.heap.size + 1) 39 (stepC zSp none 0 0) := (hsC (V.heap.size + 1) (by show _ < ((V.alloc _).alloc _).heap.size; rw [World.size_alloc, World.size_alloc]; omega) (by omega)).trans (box_new (by rw [World.size_alloc]) 39 _)
    have HBXB := hid bB; have HBXC := hid bC
    have kB0 := bB.v (k := 0) rfl; have kB1 := bB.v (k := 1) rfl; have kB2 := bB.v (k := 2) rfl; have kB3 := bB.v (k := 3) rfl; have kB4 := bB.v (k := 4) rfl
    have jB0 := bB.f 0; have jB1 := bB.f 1; have jB2 := bB.f 2; have jB3 := bB.f 3; have jB4 := bB.f 4
    have kC0 := bC.v (k := 0) rfl; have kC1 := bC.v (k := 1) rfl; have kC2 := bC.v (k := 2) rfl; have kC3 := bC.v (k := 3) rfl; have kC4 := bC.v (k := 4) rfl
    have jC0 := bC.f 0; have jC1 := bC.f 1; have jC2 := bC.f 2; have jC3 := bC.f 3; have jC4 := bC.f 4
    have p1 := X1.v (k := 1) rfl; have p2 := X1.v (k := 2) rfl
    have p1a := below_cell (alloc_below0 V (.cells #[] 3)) _ _ p1; have p2a := below_cell (alloc_below0 V (.cells #[] 3)) _ _ p2
    have p1z := below_cell (alloc_below0 V (.cells #[.int .i64 0, .slice none 0 0, .int .i64 0, .int .i64 0, .int .i64 0] 39)) _ _ p1; have p2z := below_cell (alloc_below0 V (.cells #[.int .i64 0, .slice none 0 0, .int .i64 0, .int .i64 0, .int .i64 0] 39)) _ _ p2
    have p1az := below_cell (alloc_below0 (V.alloc (.cells #[] 3)) (.cells #[.int .i64 0, .slice none 0 0, .int .i64 0, .int .i64 0, .int .i64 0] 39)) _ _ p1a; have p2az := below_cell (alloc_below0 (V.alloc (.cells #[] 3)) (.cells #[.int .i64 0, .slice none 0 0, .int .i64 0, .int .i64 0, .int .i64 0] 39)) _ _ p2a
    have p1za := below_cell (alloc_below0 (V.alloc (.cells #[.int .i64 0, .slice none 0 0, .int .i64 0, .int .i64 0, .int .i64 0] 39)) (.cells #[] 3)) _ _ p1z; have p2za := below_cell (alloc_below0 (V.alloc (.cells #[.int .i64 0, .slice none 0 0, .int .i64 0, .int .i64 0, .int .i64 0] 39)) (.cells #[] 3)) _ _ p2z
    have p1A := below_cell hbA _ _ p1; have p2A := below_cell hbA _ _ p2
    have p1D := below_cell (alloc_below0 wA (.cells #[.int .i64 0, .slice none 0 0, .int .i64 0, .int .i64 0, .int .i64 0] 39)) _ _ p1A; have p2D := below_cell (alloc_below0 wA (.cells #[.int .i64 0, .slice none 0 0, .int .i64 0, .int .i64 0, .int .i64 0] 39)) _ _ p2A
    have p1B := below_cell hbB _ _ p1; have p2B := below_cell hbB _ _ p2
    have p1C := below_cell hbC _ _ p1; have p2C := below_cell hbC _ _ p2
    clear hb33 N3 hb13 hl3 hTX X1 X2 hIA hcA hmA hbA hneA hsA hzA hIB hcB hmB hbB hneB hsB hzB hIC hcC hmC hbC hneC hsC hzC hb3 hT3 he n0 n1 n2 x1 bB bC
    go_wp2_with fail
    clear hV
    go_cut [12] (fun x w' => ∃ B q d, x = .pointer (some ⟨B, 0, none⟩) ∧ RbSt w B q pn d ps 0 at_ 0 0 w' ∧ Below V.heap.size V w' ∧ V.heap.size ≤ B)
    case first =>
      refine wp_region_held_drew (S := (fun w' : World => w'.cell? ⟨w.heap.size + 1, 1, none⟩ = some (.slice pa pn pc) ∧ w'.cell? ⟨w.heap.size + 1, 2, none⟩ = some (.int .i64 at_))) (by kernel_rfl) ⟨below_cell ((Below.refl _ V).drew) _ _ p1, below_cell ((Below.refl _ V).drew) _ _ p2⟩ ?_
      intro hS
      refine wpAnyH_take (i := 1) (v := (.pointer (some ⟨w.heap.size + 1, 1, none⟩))) rfl (by kernel_rfl) (by kernel_rfl) (by kernel_rfl) (fun _ _ _ h => h) (Or.inl ⟨by rfl, fun w' hw' => ?_⟩) hS ?_
      · go_simp
      try simp only [Act.put, List.getElem_toArray, List.getElem_cons_zero, List.getElem_cons_succ, List.setIfInBounds_toArray, List.set_cons_zero, List.set_cons_succ]
      refine wpAnyH_take (i := 2) (v := (.slice pa pn pc)) rfl (by kernel_rfl) (by kernel_rfl) (by kernel_rfl) (fun _ _ _ h => h) (Or.inl ⟨by rfl, fun w' hw' => ?_⟩) hS ?_
      · have y0 := hw'.1; go_simp
      try simp only [Act.put, List.getElem_toArray, List.getElem_cons_zero, List.getElem_cons_succ, List.setIfInBounds_toArray, List.set_cons_zero, List.set_cons_succ]
      refine wpAnyH_take (i := 4) (v := (.pointer (some ⟨w.heap.size + 1, 2, none⟩))) rfl (by kernel_rfl) (by kernel_rfl) (by kernel_rfl) (fun _ _ _ h => h) (Or.inl ⟨by rfl, fun w' hw' => ?_⟩) hS ?_
      · go_simp
      try simp only [Act.put, List.getElem_toArray, List.getElem_cons_zero, List.getElem_cons_succ, List.setIfInBounds_toArray, List.set_cons_zero, List.set_cons_succ]
      refine wpAnyH_take (i := 5) (v := (.int .i64 at_)) rfl (by kernel_rfl) (by kernel_rfl) (by kernel_rfl) (fun _ _ _ h => h) (Or.inl ⟨by rfl, fun w' hw' => ?_⟩) hS ?_
      · have y0 := hw'.2; go_simp
      try simp only [Act.put, List.getElem_toArray, List.getElem_cons_zero, List.getElem_cons_succ, List.setIfInBounds_toArray, List.set_cons_zero, List.set_cons_succ]
      refine wpAnyH_ready (rs := [0, 7]) (by kernel_rfl) (by simp) ?_
      refine (AllReadyH.cons rfl (fun K hK => ?_) (AllReadyH.cons rfl (fun K hK => ?_) AllReadyH.nil))
      · go_simp
        refine hK.out _ _ ⟨below_cell ((alloc_below0 V (.cells #[] 3)).drew) _ _ p1, below_cell ((alloc_below0 V (.cells #[] 3)).drew) _ _ p2⟩ (fun hS => ?_)
        clear hK K
        try simp only [Act.put, List.getElem_toArray, List.getElem_cons_zero, List.getElem_cons_succ, List.setIfInBounds_toArray, List.set_cons_zero, List.set_cons_succ]
        refine wpAnyH_ready (rs := [3, 7]) (by kernel_rfl) (by simp) ?_
        refine (AllReadyH.cons rfl (fun K hK => ?_) (AllReadyH.cons rfl (fun K hK => ?_) AllReadyH.nil))
        · refine step_append_run2 rfl (.tmp 31) (.tmp 33) 37 rfl _ _ (by rfl) (by rfl) _ _ (hrA _) ?_
          refine hK.out _ _ ⟨below_cell HBA.out _ _ p1, below_cell HBA.out _ _ p2⟩ (fun hS => ?_)
          clear hK K
          try simp only [Act.put, List.getElem_toArray, List.getElem_cons_zero, List.getElem_cons_succ, List.setIfInBounds_toArray, List.set_cons_zero, List.set_cons_succ]
          have y5 := hS.1
          refine wpAnyH_take (i := 6) (v := (.agg #[.int .i64 0, .slice aA pn cA, .int .i64 at_, .int .i64 0, .int .i64 0])) rfl (by kernel_rfl) (by kernel_rfl) (by kernel_rfl) (fun _ _ _ h => h) (Or.inl ⟨by rfl, fun w' hw' => ?_⟩) hS ?_
          · go_simp
          try simp only [Act.put, List.getElem_toArray, List.getElem_cons_zero, List.getElem_cons_succ, List.setIfInBounds_toArray, List.set_cons_zero, List.set_cons_succ]
          refine wpAnyH_ready (rs := [7]) (by kernel_rfl) (by simp) ?_
          refine (AllReadyH.cons rfl (fun K hK => ?_) AllReadyH.nil)
          go_simp
          refine hK.out _ _ ⟨below_cell (HBA.out.alloc HBA.out.size (.cells #[.int .i64 0, .slice none 0 0, .int .i64 0, .int .i64 0, .int .i64 0] 39)) _ _ p1, below_cell (HBA.out.alloc HBA.out.size (.cells #[.int .i64 0, .slice none 0 0, .int .i64 0, .int .i64 0, .int .i64 0] 39)) _ _ p2⟩ (fun hS => ?_)
          clear hK K
          try simp only [Act.put, List.getElem_toArray, List.getElem_cons_zero, List.getElem_cons_succ, List.setIfInBounds_toArray, List.set_cons_zero, List.set_cons_succ]
          refine wpAnyH_ready (rs := [8]) (by kernel_rfl) (by simp) ?_
          refine (AllReadyH.cons rfl (fun K hK => ?_) AllReadyH.nil)
          go_simp
          refine hK.out _ _ ⟨below_cell (HBA.out.alloc HBA.out.size _) _ _ p1, below_cell (HBA.out.alloc HBA.out.size _) _ _ p2⟩ (fun hS => ?_)
          clear hK K
          refine wpAnyH_done (by kernel_rfl) ?_ _
          go_wp2_with fail
          go_meet
          exact ⟨wA.heap.size, aA, cA, rfl, rb_alloc HL3.out HVS.out HBA.out HIA.out HNA.out HX2.out, HBA.out.alloc HBA.out.size _, HBA.out.size⟩
        · go_simp
          refine hK.out _ _ ⟨below_cell (((alloc_below0 V (.cells #[] 3)).alloc (by simp) (.cells #[.int .i64 0, .slice none 0 0, .int .i64 0, .int .i64 0, .int .i64 0] 39)).drew) _ _ p1, below_cell (((alloc_below0 V (.cells #[] 3)).alloc (by simp) (.cells #[.int .i64 0, .slice none 0 0, .int .i64 0, .int .i64 0, .int .i64 0] 39)).drew) _ _ p2⟩ (fun hS => ?_)
          clear hK K
          try simp only [Act.put, List.getElem_toArray, List.getElem_cons_zero, List.getElem_cons_succ, List.setIfInBounds_toArray, List.set_cons_zero, List.set_cons_succ]
          refine wpAnyH_ready (rs := [3]) (by kernel_rfl) (by simp) ?_
          refine (AllReadyH.cons rfl (fun K hK => ?_) AllReadyH.nil)
          refine step_append_run2 rfl (.tmp 31) (.tmp 33) 37 rfl _ _ (by rfl) (by rfl) _ _ (hrC _) ?_
          refine hK.out _ _ ⟨below_cell HBC.out _ _ p1, below_cell HBC.out _ _ p2⟩ (fun hS => ?_)
          clear hK K
          try simp only [Act.put, List.getElem_toArray, List.getElem_cons_zero, List.getElem_cons_succ, List.setIfInBounds_toArray, List.set_cons_zero, List.set_cons_succ]
          refine wpAnyH_take (i := 6) (v := (.agg #[.int .i64 0, .slice aC pn cC, .int .i64 at_, .int .i64 0, .int .i64 0])) rfl (by kernel_rfl) (by kernel_rfl) (by kernel_rfl) (fun _ _ _ h => h) (Or.inl ⟨by rfl, fun w' hw' => ?_⟩) hS ?_
          · go_simp
          try simp only [Act.put, List.getElem_toArray, List.getElem_cons_zero, List.getElem_cons_succ, List.setIfInBounds_toArray, List.set_cons_zero, List.set_cons_succ]
          refine wpAnyH_ready (rs := [8]) (by kernel_rfl) (by simp) ?_
          refine (AllReadyH.cons rfl (fun K hK => ?_) AllReadyH.nil)
          go_simp
          refine hK.out _ _ ⟨below_cell (sets5_below HBC.out (Nat.le_succ _) _ _ _ _ _) _ _ p1, below_cell (sets5_below HBC.out (Nat.le_succ _) _ _ _ _ _) _ _ p2⟩ (fun hS => ?_)
          clear hK K
          refine wpAnyH_done (by kernel_rfl) ?_ _
          go_wp2_with fail
          go_meet
          exact ⟨V.heap.size + 1, aC, cC, rfl, rb_sets HL3.out HVS.out HBC.out (Nat.le_succ _) HBXC.out HIC.out HNC.out HX2.out, sets5_below HBC.out (Nat.le_succ _) _ _ _ _ _, Nat.le_succ _⟩
      · go_simp
        refine hK.out _ _ ⟨below_cell ((alloc_below0 V (.cells #[.int .i64 0, .slice none 0 0, .int .i64 0, .int .i64 0, .int .i64 0] 39)).drew) _ _ p1, below_cell ((alloc_below0 V (.cells #[.int .i64 0, .slice none 0 0, .int .i64 0, .int .i64 0, .int .i64 0] 39)).drew) _ _ p2⟩ (fun hS => ?_)
        clear hK K
        try simp only [Act.put, List.getElem_toArray, List.getElem_cons_zero, List.getElem_cons_succ, List.setIfInBounds_toArray, List.set_cons_zero, List.set_cons_succ]
        refine wpAnyH_ready (rs := [0]) (by kernel_rfl) (by simp) ?_
        refine (AllReadyH.cons rfl (fun K hK => ?_) AllReadyH.nil)
        go_simp
        refine hK.out _ _ ⟨below_cell (((alloc_below0 V (.cells #[.int .i64 0, .slice none 0 0, .int .i64 0, .int .i64 0, .int .i64 0] 39)).alloc (by simp) (.cells #[] 3)).drew) _ _ p1, below_cell (((alloc_below0 V (.cells #[.int .i64 0, .slice none 0 0, .int .i64 0, .int .i64 0, .int .i64 0] 39)).alloc (by simp) (.cells #[] 3)).drew) _ _ p2⟩ (fun hS => ?_)
        clear hK K
        try simp only [Act.put, List.getElem_toArray, List.getElem_cons_zero, List.getElem_cons_succ, List.setIfInBounds_toArray, List.set_cons_zero, List.set_cons_succ]
        refine wpAnyH_ready (rs := [3]) (by kernel_rfl) (by simp) ?_
        refine (AllReadyH.cons rfl (fun K hK => ?_) AllReadyH.nil)
        refine step_append_run2 rfl (.tmp 31) (.tmp 33) 37 rfl _ _ (by rfl) (by rfl) _ _ (hrB _) ?_
        refine hK.out _ _ ⟨below_cell HBB.out _ _ p1, below_cell HBB.out _ _ p2⟩ (fun hS => ?_)
        clear hK K
        try simp only [Act.put, List.getElem_toArray, List.getElem_cons_zero, List.getElem_cons_succ, List.setIfInBounds_toArray, List.set_cons_zero, List.set_cons_succ]
        refine wpAnyH_take (i := 6) (v := (.agg #[.int .i64 0, .slice aB pn cB, .int .i64 at_, .int .i64 0, .int .i64 0])) rfl (by kernel_rfl) (by kernel_rfl) (by kernel_rfl) (fun _ _ _ h => h) (Or.inl ⟨by rfl, fun w' hw' => ?_⟩) hS ?_
        · go_simp
        try simp only [Act.put, List.getElem_toArray, List.getElem_cons_zero, List.getElem_cons_succ, List.setIfInBounds_toArray, List.set_cons_zero, List.set_cons_succ]
        refine wpAnyH_ready (rs := [8]) (by kernel_rfl) (by simp) ?_
        refine (AllReadyH.cons rfl (fun K hK => ?_) AllReadyH.nil)
        go_simp
        refine hK.out _ _ ⟨below_cell (sets5_below HBB.out (Nat.le_refl _) _ _ _ _ _) _ _ p1, below_cell (sets5_below HBB.out (Nat.le_refl _) _ _ _ _ _) _ _ p2⟩ (fun hS => ?_)
        clear hK K
        refine wpAnyH_done (by kernel_rfl) ?_ _
        go_wp2_with fail
        go_meet
        exact ⟨V.heap.size, aB, cB, rfl, rb_sets HL3.out HVS.out HBB.out (Nat.le_refl _) HBXB.out HIB.out HNB.out HX2.out, sets5_below HBB.out (Nat.le_refl _) _ _ _ _ _, Nat.le_refl _⟩
    case rest =>
      obtain ⟨B, q, d, rfl, hrb, hbV, hVB⟩ := hcut
      obtain ⟨V5, rfl⟩ : ∃ V5, V5 = wc := ⟨_, rfl⟩
      clear hrA hrB hrC p1 p2 p1a p2a p1z p2z p1az p2az p1za p2za p1A p2A p1B p2B p1C p2C p1D p2D kB0 kB1 kB2 kB3 kB4 jB0 jB1 jB2 jB3 jB4 kC0 kC1 kC2 kC3 kC4 jC0 jC1 jC2 jC3 jC4
      have X5 := HX1.out.below hbV; have N5 := HN3.out.below hbV
      have HRB := hid hrb; have HBV := hid hbV; have HVB := hid hVB; have HX5 := hid X5; have HN5 := hid N5
      have HNB : Hid (w3.heap.size ≠ B) := hid (by have := HN3.out.lt; have := HVB.out; omega)
      have HXB : Hid (w.heap.size + 1 ≠ B) := hid (by have := HRB.out.lo; omega)
      obtain ⟨s1, s2⟩ := s
      have hbk := HBK.out.1
      have hkind := HBK.out.2
      have x0 := X5.v (k := 0) rfl
      have k0 := hrb.box.v (k := 0) rfl; have k1 := hrb.box.v (k := 1) rfl; have k2 := hrb.box.v (k := 2) rfl; have k3 := hrb.box.v (k := 3) rfl; have k4 := hrb.box.v (k := 4) rfl
      have j0 := hrb.box.f 0; have j1 := hrb.box.f 1; have j2 := hrb.box.f 2; have j3 := hrb.box.f 3; have j4 := hrb.box.f 4
      clear X5 N5 hrb hbV hVB hV1
      rcases hkind with rfl | rfl | rfl | rfl | rfl
      · have HB9 : Hid (s2 = ⟨2, at_, (match (kidsL X.2)[at_.toNat]? with | some y => (lenF y.2 : Int) | none => 0), 0⟩) := hid (by rw [show s2 = _ from hbk]; rfl)
        clear hbk
        obtain ⟨k, hk, hlt⟩ := step_in (by show ¬ (1 : Int) = 5; decide) HS2.out
        have hk' : at_ = (k : Int) := hk
        subst hk'
        obtain ⟨bb, oo, rfl, hkk⟩ := HTX.out.args.get (by omega)
        obtain ⟨z, a1', c1', l1, kd⟩ := hkk.kid (k := k) hlt
        have hget := kid_get kd
        have HB8 : Hid (s2 = ⟨2, k, lenF l1, 0⟩) := hid (by have := HB9.out; rw [Int.toNat_natCast, hget] at this; exact this)
        have hbl : bb < V.heap.size := World.block_lt_of_cell? V _ kd.name
        have kl := (HBV.out.cell (p := ⟨bb, oo + k * 3 + 2, none⟩) hbl).trans kd.list
        have HKL := hid kl
        have HBB : Hid (bb ≠ B) := hid (by have := HVB.out; omega)
        have hk0 : (0 : Int) ≤ (k : Int) := by omega
        have hkn : (k : Int) < (lenF X.2 : Int) := by omega
        clear hk hkk kd hget hbl kl HB9
        have HB9 := HB8
        have hr0 := RbSt.set HRB.out (i := 0) (v := .int .i64 2) (k' := 2) (a' := k) (m' := 0) (s' := 0) rfl
        have hr1 := RbSt.set hr0 (i := 3) (v := .int .i64 (lenF l1 : Int)) (k' := 2) (a' := k) (m' := (lenF l1 : Int)) (s' := 0) rfl
        have HE := hid hr1
        have z0 := HE.out.res.v (k := 0) rfl; have z1 := HE.out.res.v (k := 1) rfl; have z2 := HE.out.res.v (k := 2) rfl; have z3 := HE.out.res.v (k := 3) rfl; have z4 := HE.out.res.v (k := 4) rfl
        have g0 := HE.out.res.f 0; have g1 := HE.out.res.f 1; have g2 := HE.out.res.f 2; have g3 := HE.out.res.f 3; have g4 := HE.out.res.f 4
        clear hr0 hr1
        have n2 := ((cell_set (i := 0) (v := .int .i64 2) HNB.out).trans (HN5.out.v (k := 2) rfl))
        have x2 := ((cell_set (i := 0) (v := .int .i64 2) HXB.out).trans (HX5.out.v (k := 2) rfl))
        have y2 := ((cell_set (i := 0) (v := .int .i64 2) HBB.out).trans (HKL.out))
        go_wp2_with fail
        refine ret_step rfl rfl (sets5_box HE.out.res _ _ _ _ _) rfl rfl ?_
        refine ⟨q, pn, d, ?_, fun _ => ⟨rfl, ints_apart HE.out.ints HE.out.cells HE.out.res (fun q hq => sets5_far hq _ _ _ _ _), cells_apart HE.out.cells HE.out.res (fun q hq => sets5_far hq _ _ _ _ _)⟩, fun e => (by cases e), sets5_below HE.out.low (by omega) _ _ _ _ _⟩
        rw [show ansSp (some (s1, s2)) = ⟨2, k, lenF l1, 0⟩ from HB9.out]
        rfl
      · have HB9 : Hid (s2 = ⟨1, at_, 0, 0⟩) := hid (by rw [show s2 = _ from hbk]; rfl)
        clear hbk
        have hr0 := RbSt.set HRB.out (i := 0) (v := .int .i64 1) (k' := 1) (a' := at_) (m' := 0) (s' := 0) rfl
        have HE := hid hr0
        have z0 := HE.out.res.v (k := 0) rfl; have z1 := HE.out.res.v (k := 1) rfl; have z2 := HE.out.res.v (k := 2) rfl; have z3 := HE.out.res.v (k := 3) rfl; have z4 := HE.out.res.v (k := 4) rfl
        have g0 := HE.out.res.f 0; have g1 := HE.out.res.f 1; have g2 := HE.out.res.f 2; have g3 := HE.out.res.f 3; have g4 := HE.out.res.f 4
        clear hr0
        go_wp2_with fail
        refine ret_step rfl rfl (sets5_box HE.out.res _ _ _ _ _) rfl rfl ?_
        refine ⟨q, pn, d, ?_, fun _ => ⟨rfl, ints_apart HE.out.ints HE.out.cells HE.out.res (fun q hq => sets5_far hq _ _ _ _ _), cells_apart HE.out.cells HE.out.res (fun q hq => sets5_far hq _ _ _ _ _)⟩, fun e => (by cases e), sets5_below HE.out.low (by omega) _ _ _ _ _⟩
        rw [show ansSp (some (s1, s2)) = ⟨1, at_, 0, 0⟩ from HB9.out]
        rfl
      · have HB9 : Hid (s2 = ⟨3, at_, 0, 0⟩) := hid (by rw [show s2 = _ from hbk]; rfl)
        clear hbk
        have hr0 := RbSt.set HRB.out (i := 0) (v := .int .i64 3) (k' := 3) (a' := at_) (m' := 0) (s' := 0) rfl
        have HE := hid hr0
        have z0 := HE.out.res.v (k := 0) rfl; have z1 := HE.out.res.v (k := 1) rfl; have z2 := HE.out.res.v (k := 2) rfl; have z3 := HE.out.res.v (k := 3) rfl; have z4 := HE.out.res.v (k := 4) rfl
        have g0 := HE.out.res.f 0; have g1 := HE.out.res.f 1; have g2 := HE.out.res.f 2; have g3 := HE.out.res.f 3; have g4 := HE.out.res.f 4
        clear hr0
        go_wp2_with fail
        refine ret_step rfl rfl (sets5_box HE.out.res _ _ _ _ _) rfl rfl ?_
        refine ⟨q, pn, d, ?_, fun _ => ⟨rfl, ints_apart HE.out.ints HE.out.cells HE.out.res (fun q hq => sets5_far hq _ _ _ _ _), cells_apart HE.out.cells HE.out.res (fun q hq => sets5_far hq _ _ _ _ _)⟩, fun e => (by cases e), sets5_below HE.out.low (by omega) _ _ _ _ _⟩
        rw [show ansSp (some (s1, s2)) = ⟨3, at_, 0, 0⟩ from HB9.out]
        rfl
      · have HB9 : Hid (s2 = ⟨5, at_, (if lenF X.2 = 2 then 1 else 0), X.1.2⟩) := hid (by rw [show s2 = _ from hbk]; rfl)
        clear hbk
        by_cases h2 : (lenF X.2 : Int) = 2
        · have HB8 : Hid (s2 = ⟨5, at_, 1, X.1.2⟩) := hid (by have := HB9.out; rw [if_pos (by omega)] at this; exact this)
          clear HB9
          have HB9 := HB8
          have hr0 := RbSt.set HRB.out (i := 0) (v := .int .i64 5) (k' := 5) (a' := at_) (m' := 0) (s' := 0) rfl
          have hr1 := RbSt.set hr0 (i := 4) (v := .int .i64 X.1.2) (k' := 5) (a' := at_) (m' := 0) (s' := X.1.2) rfl
          have hr2 := RbSt.set hr1 (i := 3) (v := .int .i64 1) (k' := 5) (a' := at_) (m' := 1) (s' := X.1.2) rfl
          have HE := hid hr2
          have z0 := HE.out.res.v (k := 0) rfl; have z1 := HE.out.res.v (k := 1) rfl; have z2 := HE.out.res.v (k := 2) rfl; have z3 := HE.out.res.v (k := 3) rfl; have z4 := HE.out.res.v (k := 4) rfl
          have g0 := HE.out.res.f 0; have g1 := HE.out.res.f 1; have g2 := HE.out.res.f 2; have g3 := HE.out.res.f 3; have g4 := HE.out.res.f 4
          clear hr0 hr1 hr2
          have n1 := ((cell_set (i := 0) (v := .int .i64 5) HNB.out).trans (HN5.out.v (k := 1) rfl))
          have n2 := ((cell_set (i := 4) (v := .int .i64 X.1.2) HNB.out).trans (((cell_set (i := 0) (v := .int .i64 5) HNB.out).trans (HN5.out.v (k := 2) rfl))))
          go_wp2_with fail
          refine ret_step rfl rfl (sets5_box HE.out.res _ _ _ _ _) rfl rfl ?_
          refine ⟨q, pn, d, ?_, fun _ => ⟨rfl, ints_apart HE.out.ints HE.out.cells HE.out.res (fun q hq => sets5_far hq _ _ _ _ _), cells_apart HE.out.cells HE.out.res (fun q hq => sets5_far hq _ _ _ _ _)⟩, fun e => (by cases e), sets5_below HE.out.low (by omega) _ _ _ _ _⟩
          rw [show ansSp (some (s1, s2)) = ⟨5, at_, 1, X.1.2⟩ from HB9.out]
          rfl
        · have HB8 : Hid (s2 = ⟨5, at_, 0, X.1.2⟩) := hid (by have := HB9.out; rw [if_neg (by omega)] at this; exact this)
          clear HB9
          have HB9 := HB8
          have hr0 := RbSt.set HRB.out (i := 0) (v := .int .i64 5) (k' := 5) (a' := at_) (m' := 0) (s' := 0) rfl
          have hr1 := RbSt.set hr0 (i := 4) (v := .int .i64 X.1.2) (k' := 5) (a' := at_) (m' := 0) (s' := X.1.2) rfl
          have HE := hid hr1
          have z0 := HE.out.res.v (k := 0) rfl; have z1 := HE.out.res.v (k := 1) rfl; have z2 := HE.out.res.v (k := 2) rfl; have z3 := HE.out.res.v (k := 3) rfl; have z4 := HE.out.res.v (k := 4) rfl
          have g0 := HE.out.res.f 0; have g1 := HE.out.res.f 1; have g2 := HE.out.res.f 2; have g3 := HE.out.res.f 3; have g4 := HE.out.res.f 4
          clear hr0 hr1
          have n1 := ((cell_set (i := 0) (v := .int .i64 5) HNB.out).trans (HN5.out.v (k := 1) rfl))
          have n2 := ((cell_set (i := 4) (v := .int .i64 X.1.2) HNB.out).trans (((cell_set (i := 0) (v := .int .i64 5) HNB.out).trans (HN5.out.v (k := 2) rfl))))
          go_wp2_with fail
          refine ret_step rfl rfl (sets5_box HE.out.res _ _ _ _ _) rfl rfl ?_
          refine ⟨q, pn, d, ?_, fun _ => ⟨rfl, ints_apart HE.out.ints HE.out.cells HE.out.res (fun q hq => sets5_far hq _ _ _ _ _), cells_apart HE.out.cells HE.out.res (fun q hq => sets5_far hq _ _ _ _ _)⟩, fun e => (by cases e), sets5_below HE.out.low (by omega) _ _ _ _ _⟩
          rw [show ansSp (some (s1, s2)) = ⟨5, at_, 0, X.1.2⟩ from HB9.out]
          rfl
      · have HB9 : Hid (s2 = ⟨4, at_, 0, 0⟩) := hid (by rw [show s2 = _ from hbk]; rfl)
        clear hbk
        have hr0 := RbSt.set HRB.out (i := 0) (v := .int .i64 4) (k' := 4) (a' := at_) (m' := 0) (s' := 0) rfl
        have HE := hid hr0
        have z0 := HE.out.res.v (k := 0) rfl; have z1 := HE.out.res.v (k := 1) rfl; have z2 := HE.out.res.v (k := 2) rfl; have z3 := HE.out.res.v (k := 3) rfl; have z4 := HE.out.res.v (k := 4) rfl
        have g0 := HE.out.res.f 0; have g1 := HE.out.res.f 1; have g2 := HE.out.res.f 2; have g3 := HE.out.res.f 3; have g4 := HE.out.res.f 4
        clear hr0
        go_wp2_with fail
        refine ret_step rfl rfl (sets5_box HE.out.res _ _ _ _ _) rfl rfl ?_
        refine ⟨q, pn, d, ?_, fun _ => ⟨rfl, ints_apart HE.out.ints HE.out.cells HE.out.res (fun q hq => sets5_far hq _ _ _ _ _), cells_apart HE.out.cells HE.out.res (fun q hq => sets5_far hq _ _ _ _ _)⟩, fun e => (by cases e), sets5_below HE.out.low (by omega) _ _ _ _ _⟩
        rw [show ansSp (some (s1, s2)) = ⟨4, at_, 0, 0⟩ from HB9.out]
        rfl
end Go.Proofs.Ytokbgbbkopmngaa
/- The law's same, of like steps. -/
namespace Go.Proofs.Ytokbgbbkopmngaa
open Go.RowKit Go.Deep

/-- same's two boxes. -/
structure SmSt (w : World) (cs ds : Array Value) (W : World) : Prop where
  low : Below w.heap.size w W
  l : Box W w.heap.size 39 cs
  r : Box W (w.heap.size + 1) 39 ds
set_option maxRecDepth 100000 in
set_option maxHeartbeats 2000000 in
theorem lsame_any (p : Sp) (ps : List Int) (pa qa : Option Addr) (pn pc qc : Nat) (w : World) (hI : IntsAt w pa pn ps) (hJ : IntsAt w qa pn ps) (hn : pn ≤ 1048576) :
    Calls Try.prog 17 #[stepV p pa pn pc, stepV p qa pn qc] w fun e w' => e = .returned (.bool true) ∧ Below w.heap.size w w' := by
  obtain ⟨kd, at_, many, sym⟩ := p
  obtain ⟨W0, hW0⟩ : ∃ W0, (w.alloc (.cells #[.int .i64 kd, .slice pa pn pc, .int .i64 at_, .int .i64 many, .int .i64 sym] 39)).alloc (.cells #[.int .i64 kd, .slice qa pn qc, .int .i64 at_, .int .i64 many, .int .i64 sym] 39) = W0 := ⟨_, rfl⟩
  have hst : SmSt w #[.int .i64 kd, .slice pa pn pc, .int .i64 at_, .int .i64 many, .int .i64 sym] #[.int .i64 kd, .slice qa pn qc, .int .i64 at_, .int .i64 many, .int .i64 sym] W0 := by
    rw [← hW0]
    exact ⟨(alloc_below0 w _).alloc (by simp) _, (Box.new w 39 _).over _, box_new (by rw [World.size_alloc]) 39 _⟩
  have HST := hid hst
  have l0 := hst.l.v (k := 0) rfl; have l1 := hst.l.v (k := 1) rfl; have l2 := hst.l.v (k := 2) rfl; have l3 := hst.l.v (k := 3) rfl; have l4 := hst.l.v (k := 4) rfl
  have r0 := hst.r.v (k := 0) rfl; have r1 := hst.r.v (k := 1) rfl; have r2 := hst.r.v (k := 2) rfl; have r3 := hst.r.v (k := 3) rfl; have r4 := hst.r.v (k := 4) rfl
  have HI := hid (hI.below hst.low); have HJ := hid (hJ.below hst.low)
  obtain rfl := hI.len
  clear hI hJ hst
  go_enter Try.func17, Try.ntmps17
  go_wp2_with fail
  clear l0 l2 l3 l4 r0 r2 r3 r4
  go_loopw [5] (fun ix wr => ∃ j : Nat, j ≤ ps.length ∧ ix = .int .i64 j ∧ Below W0.heap.size W0 wr) (fun ix _ => ps.length - (intOf ix).toNat)
  case atStart => exact ⟨0, Nat.zero_le _, rfl, Below.refl _ _⟩
  case round =>
    obtain ⟨j, hj, rfl, hb⟩ := hrel
    have HB := hid hb
    have a1 := below_cell hb _ _ l1; have b1 := below_cell hb _ _ r1
    have hne := later_some wr
    by_cases hlt : j < ps.length
    · obtain ⟨b, off, rfl, hc⟩ := HI.out.cells j hlt
      obtain ⟨b', off', rfl, hc'⟩ := HJ.out.cells j hlt
      obtain ⟨x, hx⟩ : ∃ x, ps[j] = x := ⟨_, rfl⟩
      rw [hx] at hc hc'
      have hj0 : (0 : Int) ≤ (j : Int) := by omega
      have hjn : (j : Int) < (ps.length : Int) := by omega
      have m1 := later_cell a1; have m2 := later_cell b1
      have m3 := later_cell (below_cell hb _ _ hc); have m4 := later_cell (below_cell hb _ _ hc')
      clear hc hc' hx hb
      go_wp2_with fail
      refine wp_region_later (by kernel_rfl) (by kernel_rfl) ?_
      repeat (go_big_quiet_step (fail))
      refine wpQuiet_nil ?_
      intro _ hw'
      obtain ⟨b2, hw''⟩ := hw'
      subst hw''
      go_wp2_with fail
      go_roundw
      case rel => exact ⟨j + 1, by omega, by go_num, HB.out.trans (b2.below.mono HB.out.size)⟩
      case measure => simp [intOf]; omega
    · have hjn : ¬ (j : Int) < (ps.length : Int) := by omega
      clear hb
      go_wp2_with fail
      go_ret
      exact ⟨rfl, HST.out.low.trans (HB.out.mono HST.out.low.size)⟩
end Go.Proofs.Ytokbgbbkopmngaa
/- The walk of DeriveDoes. -/
namespace Go.Proofs.Ytokbgbbkopmngaa
open Go.RowKit Go.Deep

/-- The law's argument, as its cells. -/
abbrev dsC (p : Option Addr) (n c : Nat) (A B : Tn) (a b : Option Addr) (ca cb : Nat) (la : Option Addr) (ln lc : Nat) : Array Value :=
  #[.slice p n c, .string A.1.1, .int .i64 A.1.2, .slice a (lenF A.2) ca, .string B.1.1, .int .i64 B.1.2, .slice b (lenF B.2) cb, .slice la ln lc]
/-- What Does' loop keeps. -/
structure DsSt (w : World) (Bt N : Nat) (cs : Array Value) (A : Tn) (a : Option Addr) (c : Nat) (W : World) : Prop where
  box : Box W Bt 26 (tmC A a c)
  own : OwnTm true (fun q => N ≤ q) W A.1 a c A.2
  arg : Box W w.heap.size 29 cs
  low : Below w.heap.size w W
theorem DsSt.below {w : World} {Bt N : Nat} {cs : Array Value} {A : Tn} {a : Option Addr} {c : Nat} {W W' : World} (h : DsSt w Bt N cs A a c W) (hb : Below W.heap.size W W') : DsSt w Bt N cs A a c W' :=
  ⟨h.box.below hb, h.own.below hb, h.arg.below hb, h.low.trans (hb.mono h.low.size)⟩
theorem ints_far {w w' : World} {q : Option Addr} {n : Nat} {ps : List Int} {B : Nat} {cs : Array Value} (h : IntsAt w q n ps) (hc : ∀ ad, q = some ad → ∃ cur, w.heap[ad.block]? = some (.cells cur 3 (0, 0))) (hB : Box w B 39 cs) (hk : ∀ q, q ≠ B → w'.heap[q]? = w.heap[q]?) : IntsAt w' q n ps := ints_apart h hc hB hk
theorem rback_path (S : Option Addr) (n cap : Nat) (L : List Sym) (t : Tn) (a : Option Addr) (c : Nat) (p : Sp) (ps : List Int) (pa : Option Addr) (pn pc : Nat) (w : World)
    (hS : SigAt w S n L) (hT : TmAt w t.1 a c t.2) (hn : nodesF t.2 ≤ 1048576) (hr : rightB L t = true) (hI : IntsAt w pa pn ps) (hpn : pn ≤ 1048576) (hpc : pn ≤ pc) (hpm : pc ≤ maxLen) :
    Calls Try.prog 15 #[.slice S n cap, .agg #[.string t.1.1, .int .i64 t.1.2, .slice a (lenF t.2) c], stepV p pa pn pc] w fun e w' => ∃ q d, e = .returned (.tuple #[stepV (ansSp (stepT (sgOf L) t ps p)) q (pthN (stepT (sgOf L) t ps p) ps).length d, .int .i64 (ansC (stepT (sgOf L) t ps p))]) ∧ IntsAt w' q (pthN (stepT (sgOf L) t ps p) ps).length (pthN (stepT (sgOf L) t ps p) ps) ∧ Below w.heap.size w w' ∧ ∀ ad, q = some ad → ∃ cur, w'.heap[ad.block]? = some (.cells cur 3 (0, 0)) := by
  refine (rback_any S n cap L t a c p ps pa pn pc w hS hT hn hr hI hpn hpc hpm).mono ?_
  rintro e w' ⟨q, m, d, rfl, h1, h2, h3⟩
  cases hr2 : stepT (sgOf L) t ps p with
  | none =>
    obtain ⟨rfl, rfl, rfl⟩ := h2 hr2
    exact ⟨none, 0, rfl, ⟨rfl, fun i hi => absurd hi (by simp [pthN])⟩, h3, fun ad e => by cases e⟩
  | some r =>
    obtain ⟨rfl, k1, k2⟩ := h1 (by rw [hr2]; simp)
    have e1 : (pthN (some r) ps).length = m := k1.len.symm
    exact ⟨q, d, by rw [e1], by rw [e1]; exact k1, h3, k2⟩

set_option maxRecDepth 100000 in
set_option maxHeartbeats 8000000 in
theorem does_walk (p : Option Addr) (n c : Nat) (l : List Sym) (A B : Tn) (a b : Option Addr) (ca cb : Nat) (la : Option Addr) (ln lc : Nat) (Ls : List St) (w : World)
    (hS : SigAt w p n l) (hA : TmAt w A.1 a ca A.2) (hAn : nodesF A.2 ≤ 1048574) (hL : StpsAt w la ln Ls) (hlc : ln ≤ lc) :
    Calls Try.prog 3 #[.agg (dsC p n c A B a b ca cb la ln lc)] w fun e w' => e = .returned (.bool true) ∧ Below w.heap.size w w' := by
  obtain ⟨W0, hW0⟩ : ∃ W0, w.alloc (.cells (dsC p n c A B a b ca cb la ln lc) 29) = W0 := ⟨_, rfl⟩
  have hb0 : Below w.heap.size w W0 := by rw [← hW0]; exact alloc_below0 _ _
  have X0 : Box W0 w.heap.size 29 (dsC p n c A B a b ca cb la ln lc) := by rw [← hW0]; exact Box.new _ _ _
  obtain rfl := hL.len
  have HS := hid hS; have HA := hid hA; have HAN := hid hAn; have HL := hid hL; have HX0 := hid X0; have HB0 := hid hb0
  clear hS hA hAn hL X0 hb0
  go_enter Try.func3, Try.ntmps3
  go_wp2_with fail
  clear hW0
  refine (head_any W0).mono ?_
  rintro e w1 ⟨rfl, hb1⟩
  have X1 := HX0.out.below hb1
  have hbw1 : Below w.heap.size w w1 := HB0.out.trans (hb1.mono HB0.out.size)
  have HX1 := hid X1; have HB1 := hid hbw1
  have c0 := X1.v (k := 0) rfl; have c1 := X1.v (k := 1) rfl; have c2 := X1.v (k := 2) rfl; have c3 := X1.v (k := 3) rfl
  clear X1 hb1 hbw1
  go_wp2_with fail
  refine (rright_any p n c l A a ca w1 (HS.out.below HB1.out) (HA.out.below HB1.out)).mono ?_
  rintro e w2 ⟨rfl, hb2⟩
  have X2 := HX1.out.below hb2
  have hbw2 : Below w.heap.size w w2 := HB1.out.trans (hb2.mono HB1.out.size)
  have HX2 := hid X2; have HB2 := hid hbw2
  clear c0 c1 c2 c3
  have c1 := X2.v (k := 1) rfl; have c2 := X2.v (k := 2) rfl; have c3 := X2.v (k := 3) rfl
  obtain ⟨rt, hrt⟩ : ∃ rt, rightB l A = rt := ⟨_, rfl⟩
  rw [hrt]
  have HRT := hid hrt
  clear X2 hb2 hbw2 hrt
  go_wp2_with fail
  refine (lent_any A.1 A.2 a ca w2 (HA.out.below HB2.out)).mono ?_
  rintro e w3 ⟨ta, tc, rfl, hO3, hb3⟩
  obtain ⟨V, hV⟩ : ∃ V, w3.alloc (.cells #[.string A.1.1, .int .i64 A.1.2, .slice ta (lenF A.2) tc] 26) = V := ⟨_, rfl⟩
  have hbV3 : Below w3.heap.size w3 V := by rw [← hV]; exact alloc_below0 _ _
  have hBt : Box V w3.heap.size 26 (tmC A ta tc) := by rw [← hV]; exact Box.new _ _ _
  have hb2V : Below w2.heap.size w2 V := hb3.trans (hbV3.mono hb3.size)
  have hst0 : DsSt w w3.heap.size w2.heap.size (dsC p n c A B a b ca cb la Ls.length lc) A ta tc V := ⟨hBt, hO3.below hbV3, HX2.out.below hb2V, HB2.out.trans (hb2V.mono HB2.out.size)⟩
  have HST := hid hst0
  have HBT : Hid (w.heap.size < w3.heap.size) := Nat.lt_of_lt_of_le HX2.out.lt hb3.size
  clear hbV3 hBt hb2V hst0 hO3 hb3
  go_wp2_with fail
  clear c1 c2 c3 hV
  generalize w3.heap.size = Bt at HST HBT ⊢
  generalize w2.heap.size = N at HST ⊢
  go_loopw [6, 7, 8, 9, 10, 11, 12, 13, 14, 15, 16, 17] (fun ix _ _ _ _ _ _ _ _ _ _ _ wr => ∃ (j : Nat), j ≤ Ls.length ∧ ix = .int .i64 j ∧ DsSt w Bt N (dsC p n c A B a b ca cb la Ls.length lc) A ta tc wr) (fun ix _ _ _ _ _ _ _ _ _ _ _ _ => Ls.length - (intOf ix).toNat)
  case atStart => exact ⟨0, Nat.zero_le _, rfl, HST.out⟩
  case round =>
    obtain ⟨j, hj, rfl, hst⟩ := hrel
    have HST := hid hst
    have k7r := hst.arg.v (k := 7) rfl
    have hlen := HL.out.few
    by_cases hlt : j < Ls.length
    · obtain ⟨sb, so, pa, pn, pc, rfl, hsa⟩ := HL.out.cells j hlt
      have hbwr := hst.low
      have hstr := hsa.below hbwr
      obtain ⟨sp, hsp⟩ : ∃ sp, Ls[j].sp = sp := ⟨_, rfl⟩
      obtain ⟨pth, hpth⟩ : ∃ pth, Ls[j].path = pth := ⟨_, rfl⟩
      have t0 := hstr.kind; have t1 := hstr.path; have t2 := hstr.at_; have t3 := hstr.many; have t4 := hstr.sym
      have hpI := hsa.ints
      rw [hsp] at t0 t2 t3 t4
      rw [hpth] at hpI
      have hpn := hsa.few
      have HPC : Hid (pn ≤ pc) := hid hsa.fits
      have HPM : Hid (pc ≤ maxLen) := hid hsa.cap
      have hj0 : (0 : Int) ≤ (j : Int) := by omega
      have hjn : (j : Int) < (Ls.length : Int) := by omega
      have HPI := hid hpI; have HPN := hid hpn
      have k0 := hst.arg.v (k := 0) rfl
      have x0 := hst.box.v (k := 0) rfl; have x1 := hst.box.v (k := 1) rfl; have x2 := hst.box.v (k := 2) rfl
      obtain ⟨r1, hr1⟩ : ∃ r1, stepT (sgOf l) A pth sp = r1 := ⟨_, rfl⟩
      obtain ⟨y, hy⟩ : ∃ y, ansN r1 = y := ⟨_, rfl⟩
      obtain ⟨ec, hec⟩ : ∃ ec, ansC r1 = ec := ⟨_, rfl⟩
      obtain ⟨bs, hbs⟩ : ∃ bs, ansSp r1 = bs := ⟨_, rfl⟩
      obtain ⟨pp, hpp⟩ : ∃ pp, pthN r1 pth = pp := ⟨_, rfl⟩
      have HPP : Hid (pp.length ≤ 1048576) := hid (by
        rw [← hpp]
        cases r1 with
        | none => exact Nat.zero_le _
        | some r => show pth.length ≤ _; have := hpI.len; omega)
      have HD1 : Hid (∀ W, Below wr.heap.size wr W → Calls Try.prog 11 #[.slice p n c, .agg #[.string A.1.1, .int .i64 A.1.2, .slice ta (lenF A.2) tc], stepV sp pa pn pc] W fun e w' => ∃ a' c', e = .returned (.tuple #[.agg #[.string y.1.1, .int .i64 y.1.2, .slice a' (lenF y.2) c'], .int .i64 ec]) ∧ FulTm w' (fun q => W.heap.size ≤ q) y.1 a' c' y.2 ∧ Below W.heap.size W w') := fun W hW => by
        have hbW : Below w.heap.size w W := HST.out.low.trans (hW.mono HST.out.low.size)
        have := pdo_any p n c l A ta tc sp pth pa pn pc W (HS.out.below hbW) (HST.out.own.tm.below hW) (by have := HAN.out; omega) (HPI.out.below hbW) (by have := HPN.out; omega)
        rw [hr1] at this
        unfold DoEnd at this
        rw [hy, hec] at this
        exact this
      have HE1 : Hid (∀ W, Below wr.heap.size wr W → Calls Try.prog 12 #[.slice p n c, .agg #[.string A.1.1, .int .i64 A.1.2, .slice ta (lenF A.2) tc], stepV sp pa pn pc] W fun e w' => ∃ q d, e = .returned (.tuple #[stepV bs q pp.length d, .int .i64 ec]) ∧ IntsAt w' q pp.length pp ∧ Below W.heap.size W w' ∧ ∀ ad, q = some ad → W.heap.size ≤ ad.block) := fun W hW => by
        have hbW : Below w.heap.size w W := HST.out.low.trans (hW.mono HST.out.low.size)
        have := pback_path p n c l A ta tc sp pth pa pn pc W (HS.out.below hbW) (HST.out.own.tm.below hW) (by have := HAN.out; omega) (HPI.out.below hbW) HPN.out
        rw [hr1] at this
        unfold BackPth at this
        rw [hbs, hec, hpp] at this
        exact this
      have HG0 : Hid (rt = true → ∀ W, Below w.heap.size w W → Calls Try.prog 14 #[.slice p n c, .agg #[.string A.1.1, .int .i64 A.1.2, .slice a (lenF A.2) ca], stepV sp pa pn pc] W fun e w' => ∃ a' c', e = .returned (.tuple #[.agg #[.string y.1.1, .int .i64 y.1.2, .slice a' (lenF y.2) c'], .int .i64 ec]) ∧ OwnTm false (fun q => W.heap.size ≤ q) w' y.1 a' c' y.2 ∧ Below W.heap.size W w') := fun hR W hbW => by
        have := rdo_any p n c l A a ca sp pth pa pn pc W (HS.out.below hbW) (HA.out.below hbW) (by have := HAN.out; omega) (by rw [HRT.out]; exact hR) (HPI.out.below hbW) (by have := HPN.out; omega) HPC.out HPM.out
        rw [hr1] at this
        unfold RDoEnd at this
        rw [hy, hec] at this
        exact this
      have HK0 : Hid (rt = true → ∀ W, Below w.heap.size w W → Calls Try.prog 15 #[.slice p n c, .agg #[.string A.1.1, .int .i64 A.1.2, .slice a (lenF A.2) ca], stepV sp pa pn pc] W fun e w' => ∃ q d, e = .returned (.tuple #[stepV bs q pp.length d, .int .i64 ec]) ∧ IntsAt w' q pp.length pp ∧ Below W.heap.size W w' ∧ ∀ ad, q = some ad → ∃ cur, w'.heap[ad.block]? = some (.cells cur 3 (0, 0))) := fun hR W hbW => by
        have := rback_path p n c l A a ca sp pth pa pn pc W (HS.out.below hbW) (HA.out.below hbW) (by have := HAN.out; omega) (by rw [HRT.out]; exact hR) (HPI.out.below hbW) (by have := HPN.out; omega) HPC.out HPM.out
        rw [hr1, hbs, hec, hpp] at this
        exact this
      have HLT := hid hlt
      clear hsa hbwr hstr hsp hpth hpI hr1 hy hec hbs hpp hst hpn
      go_wp2_with fail
      -- x, e := Do
      go_cut [7, 8] (fun x e w' => ∃ B a4 c4, x = .pointer (some ⟨B, 0, none⟩) ∧ e = .int .i64 ec ∧ wr.heap.size ≤ B ∧ Box w' B 26 #[.string y.1.1, .int .i64 y.1.2, .slice a4 (lenF y.2) c4] ∧ FulTm w' (fun q => wr.heap.size ≤ q) y.1 a4 c4 y.2 ∧ Below wr.heap.size wr w')
      case first =>
        go_region_held3 (fun w' => w'.cell? ⟨w.heap.size, 0, none⟩ = some (.slice p n c) ∧ w'.cell? ⟨w.heap.size, 7, none⟩ = some (.slice (some ⟨sb, so, none⟩) Ls.length lc) ∧ w'.cell? ⟨Bt, 0, none⟩ = some (.string A.1.1) ∧ w'.cell? ⟨Bt, 1, none⟩ = some (.int .i64 A.1.2) ∧ w'.cell? ⟨Bt, 2, none⟩ = some (.slice ta (lenF A.2) tc) ∧ w'.cell? ⟨sb, so + j * 5, none⟩ = some (.int .i64 sp.kind) ∧ w'.cell? ⟨sb, so + j * 5 + 1, none⟩ = some (.slice pa pn pc) ∧ w'.cell? ⟨sb, so + j * 5 + 2, none⟩ = some (.int .i64 sp.at_) ∧ w'.cell? ⟨sb, so + j * 5 + 3, none⟩ = some (.int .i64 sp.many) ∧ w'.cell? ⟨sb, so + j * 5 + 4, none⟩ = some (.int .i64 sp.sym)) ((first | (go_split_ands; refine ⟨?_, ?_, ?_, ?_, ?_, ?_, ?_, ?_, ?_, ?_⟩ <;> ((with_reducible refine below_cell HB4.out _ _ ?_); assumption)) | (have hqq := HX4.out; clear hqq; go_split_ands; refine ⟨?_, ?_, ?_, ?_, ?_, ?_, ?_, ?_, ?_, ?_⟩ <;> (refine below_cell (sets_below HB4.out (Nat.le_refl _) _ _ _) _ _ ?_; assumption)) | (go_split_ands; refine ⟨?_, ?_, ?_, ?_, ?_, ?_, ?_, ?_, ?_, ?_⟩ <;> (refine below_cell (HB4.out.alloc HB4.out.size _) _ _ ?_; assumption)) | (go_split_ands; refine ⟨?_, ?_, ?_, ?_, ?_, ?_, ?_, ?_, ?_, ?_⟩ <;> (refine below_cell ((Below.refl _ wr).alloc (Nat.le_refl _) _) _ _ ?_; assumption)) | go_keep | fail)) ((first | (go_at_call 11; (with_reducible refine Calls.mono (HD1.out (World.drew wr) (Below.refl _ wr).drew) ?_); rintro e w4 ⟨a4, c4, rfl, hF4, hb4⟩; have HF4 : Hid (FulTm w4 (fun q => wr.heap.size ≤ q) y.1 a4 c4 y.2) := hF4; have HB4 : Hid (Below wr.heap.size wr w4) := ((Below.refl _ wr).drew).trans hb4; clear hF4 hb4) | (go_at_call 11; refine (HD1.out (World.drew (World.alloc wr (.cells #[.string ⟨#[]⟩, .int .i64 0, .slice none 0 0] 26))) ((Below.refl _ wr).alloc (Nat.le_refl _) _).drew).mono ?_; rintro e w4 ⟨a4, c4, rfl, hF4, hb4⟩; have HF4 : Hid (FulTm w4 (fun q => wr.heap.size < q) y.1 a4 c4 y.2) := hF4.mono (fun q hq => by have hq : (World.drew (World.alloc wr (.cells #[.string ⟨#[]⟩, .int .i64 0, .slice none 0 0] 26))).heap.size ≤ q := hq; rw [show (World.drew (World.alloc wr (.cells #[.string ⟨#[]⟩, .int .i64 0, .slice none 0 0] 26))).heap.size = wr.heap.size + 1 from World.size_alloc _ _] at hq; omega); have HB4 : Hid (Below wr.heap.size wr w4) := (((Below.refl _ wr).alloc (Nat.le_refl _) _).drew).trans (hb4.mono (by show _ ≤ (wr.alloc _).heap.size; rw [World.size_alloc]; omega)); have HX4 : Hid (Box w4 wr.heap.size 26 #[.string ⟨#[]⟩, .int .i64 0, .slice none 0 0]) := Box.below (W := World.drew (World.alloc wr (.cells #[.string ⟨#[]⟩, .int .i64 0, .slice none 0 0] 26))) (Box.new wr 26 _) hb4; have z0 := HX4.out.v (k := 0) rfl; have z1 := HX4.out.v (k := 1) rfl; have z2 := HX4.out.v (k := 2) rfl; have zf0 := HX4.out.f 0; have zf1 := HX4.out.f 1; have zf2 := HX4.out.f 2; clear hF4 hb4) | fail))
        all_goals (go_wp2_with fail; go_meet)
        all_goals first
          | exact ⟨wr.heap.size, a4, c4, rfl, rfl, Nat.le_refl _, sets3_box HX4.out _ _ _, (HF4.out.keep (fun q hq _ => sets_far (by omega) _ _ _)).mono (fun q hq => by omega), sets_below HB4.out (Nat.le_refl _) _ _ _⟩
          | exact ⟨w4.heap.size, a4, c4, rfl, rfl, HB4.out.size, Box.new _ _ _, HF4.out.below (alloc_below0 _ _), HB4.out.alloc HB4.out.size _⟩
      case rest =>
        obtain ⟨B1, a4, c4, rfl, rfl, hlo1, hX1, hF1, hW1⟩ := hcut
        have k0' := below_cell hW1 _ _ k0; have k7' := below_cell hW1 _ _ k7r
        have x0' := below_cell hW1 _ _ x0; have x1' := below_cell hW1 _ _ x1; have x2' := below_cell hW1 _ _ x2
        have t0' := below_cell hW1 _ _ t0; have t1' := below_cell hW1 _ _ t1; have t2' := below_cell hW1 _ _ t2; have t3' := below_cell hW1 _ _ t3; have t4' := below_cell hW1 _ _ t4
        have HLO1 := hid hlo1; have HX1 := hid hX1; have HF1 := hid hF1; have HW1 := hid hW1
        have HT0 := hid t0; have HT1 := hid t1; have HT2 := hid t2; have HT3 := hid t3; have HT4 := hid t4
        clear hlo1 hX1 hF1 hW1 k0 k7r x0 x1 x2 t0 t1 t2 t3 t4 HD1
        -- b, f := Back
        obtain ⟨V1, rfl⟩ : ∃ V1, V1 = wc := ⟨_, rfl⟩
        go_wp2_with fail
        go_cut [9, 10] (fun x e w' => ∃ B q5 d5, x = .pointer (some ⟨B, 0, none⟩) ∧ e = .int .i64 ec ∧ Box w' B 39 (stepC bs q5 pp.length d5) ∧ IntsAt w' q5 pp.length pp ∧ Below V1.heap.size V1 w')
        case first =>
          go_region_held3 (fun w' => w'.cell? ⟨w.heap.size, 0, none⟩ = some (.slice p n c) ∧ w'.cell? ⟨w.heap.size, 7, none⟩ = some (.slice (some ⟨sb, so, none⟩) Ls.length lc) ∧ w'.cell? ⟨Bt, 0, none⟩ = some (.string A.1.1) ∧ w'.cell? ⟨Bt, 1, none⟩ = some (.int .i64 A.1.2) ∧ w'.cell? ⟨Bt, 2, none⟩ = some (.slice ta (lenF A.2) tc) ∧ w'.cell? ⟨sb, so + j * 5, none⟩ = some (.int .i64 sp.kind) ∧ w'.cell? ⟨sb, so + j * 5 + 1, none⟩ = some (.slice pa pn pc) ∧ w'.cell? ⟨sb, so + j * 5 + 2, none⟩ = some (.int .i64 sp.at_) ∧ w'.cell? ⟨sb, so + j * 5 + 3, none⟩ = some (.int .i64 sp.many) ∧ w'.cell? ⟨sb, so + j * 5 + 4, none⟩ = some (.int .i64 sp.sym)) ((first | (go_split_ands; refine ⟨?_, ?_, ?_, ?_, ?_, ?_, ?_, ?_, ?_, ?_⟩ <;> ((with_reducible refine below_cell HB5.out _ _ ?_); assumption)) | (have hqq := HX5.out; clear hqq; go_split_ands; refine ⟨?_, ?_, ?_, ?_, ?_, ?_, ?_, ?_, ?_, ?_⟩ <;> (refine below_cell (sets5_below HB5.out (Nat.le_refl _) _ _ _ _ _) _ _ ?_; assumption)) | (go_split_ands; refine ⟨?_, ?_, ?_, ?_, ?_, ?_, ?_, ?_, ?_, ?_⟩ <;> (refine below_cell (HB5.out.alloc HB5.out.size _) _ _ ?_; assumption)) | (go_split_ands; refine ⟨?_, ?_, ?_, ?_, ?_, ?_, ?_, ?_, ?_, ?_⟩ <;> (refine below_cell ((Below.refl _ V1).alloc (Nat.le_refl _) _) _ _ ?_; assumption)) | go_keep | fail)) ((first | (go_at_call 12; (with_reducible refine Calls.mono (HE1.out (World.drew V1) HW1.out.drew) ?_); rintro e w5 ⟨q5, d5, rfl, hI5, hb5, hl5⟩; have HI5 : Hid (IntsAt w5 q5 pp.length pp) := hI5; have HL5 : Hid (∀ ad, q5 = some ad → V1.heap.size ≤ ad.block) := hl5; have HB5 : Hid (Below V1.heap.size V1 w5) := ((Below.refl _ V1).drew).trans hb5; clear hI5 hb5 hl5) | (go_at_call 12; refine (HE1.out (World.drew (World.alloc V1 (.cells #[.int .i64 0, .slice none 0 0, .int .i64 0, .int .i64 0, .int .i64 0] 39))) (HW1.out.alloc HW1.out.size _).drew).mono ?_; rintro e w5 ⟨q5, d5, rfl, hI5, hb5, hl5⟩; have HI5 : Hid (IntsAt w5 q5 pp.length pp) := hI5; have HL5 : Hid (∀ ad, q5 = some ad → V1.heap.size < ad.block) := (fun ad e => by have hq : (World.drew (World.alloc V1 (.cells #[.int .i64 0, .slice none 0 0, .int .i64 0, .int .i64 0, .int .i64 0] 39))).heap.size ≤ ad.block := hl5 ad e; rw [show (World.drew (World.alloc V1 (.cells #[.int .i64 0, .slice none 0 0, .int .i64 0, .int .i64 0, .int .i64 0] 39))).heap.size = V1.heap.size + 1 from World.size_alloc _ _] at hq; omega); have HB5 : Hid (Below V1.heap.size V1 w5) := (((Below.refl _ V1).alloc (Nat.le_refl _) _).drew).trans (hb5.mono (by show _ ≤ (V1.alloc _).heap.size; rw [World.size_alloc]; omega)); have HX5 : Hid (Box w5 V1.heap.size 39 (stepC zSp none 0 0)) := Box.below (W := World.drew (World.alloc V1 (.cells #[.int .i64 0, .slice none 0 0, .int .i64 0, .int .i64 0, .int .i64 0] 39))) (Box.new V1 39 _) hb5; have z0 := HX5.out.v (k := 0) rfl; have z1 := HX5.out.v (k := 1) rfl; have z2 := HX5.out.v (k := 2) rfl; have z3 := HX5.out.v (k := 3) rfl; have z4 := HX5.out.v (k := 4) rfl; have zf0 := HX5.out.f 0; have zf1 := HX5.out.f 1; have zf2 := HX5.out.f 2; have zf3 := HX5.out.f 3; have zf4 := HX5.out.f 4; clear hI5 hb5 hl5) | fail))
          all_goals (go_wp2_with fail; go_meet)
          all_goals first
            | exact ⟨V1.heap.size, q5, d5, rfl, rfl, sets5_box HX5.out _ _ _ _ _, HI5.out.keep (fun ad e => sets5_far (by have := HL5.out ad e; omega) _ _ _ _ _), sets5_below HB5.out (Nat.le_refl _) _ _ _ _ _⟩
            | exact ⟨w5.heap.size, q5, d5, rfl, rfl, Box.new _ _ _, HI5.out.below (alloc_below0 _ _), HB5.out.alloc HB5.out.size _⟩
        case rest =>
          obtain ⟨B2, q5, d5, rfl, rfl, hX2, hI2, hW2⟩ := hcut
          obtain ⟨V2, rfl⟩ : ∃ V2, V2 = wc := ⟨_, rfl⟩
          have hb2 : Below wr.heap.size wr V2 := HW1.out.trans (hW2.mono HW1.out.size)
          have HX1 := hid (HX1.out.below hW2); have HF1 := hid (HF1.out.below hW2)
          have hst2 := HST.out.below hb2
          have HST2 := hid hst2; have HX2 := hid hX2; have HI2 := hid hI2; have HB2 := hid hb2
          have HKP := hid (kept_any _ A.1 A.2 ta a tc ca V2 hst2.own (HA.out.below hst2.low))
          have y0 := hst2.box.v (k := 0) rfl; have y1 := hst2.box.v (k := 1) rfl; have y2 := hst2.box.v (k := 2) rfl
          have a1 := hst2.arg.v (k := 1) rfl; have a2 := hst2.arg.v (k := 2) rfl; have a3 := hst2.arg.v (k := 3) rfl
          clear hX2 hI2 hW2 hb2 hst2 k0' k7' x0' x1' x2' t0' t1' t2' t3' t4' HE1
          go_upto_region 10 with (first | (go_at_call 13; refine HKP.out.mono ?_; rintro e V3 ⟨rfl, hb3⟩; have HB3 := hid hb3; clear hb3) | fail)
          have hb3r : Below wr.heap.size wr V3 := HB2.out.trans (HB3.out.mono HB2.out.size)
          have hst3 := HST2.out.below HB3.out
          have HX1 := hid (HX1.out.below HB3.out); have HF1 := hid (HF1.out.below HB3.out); have HX2 := hid (HX2.out.below HB3.out); have HI2 := hid (HI2.out.below HB3.out)
          have HST3 := hid hst3; have HB3R := hid hb3r
          clear y0 y1 y2 a1 a2 a3 HKP
          cases rt with
          | false =>
            clear hst3 hb3r
            go_wp2_with fail
            go_roundw
            case rel => exact ⟨j + 1, by have := HLT.out; omega, by go_num, HST3.out⟩
            case measure => simp [intOf]; omega
          | true =>
            have HG1 : Hid (∀ W, Below V3.heap.size V3 W → Calls Try.prog 14 #[.slice p n c, .agg #[.string A.1.1, .int .i64 A.1.2, .slice a (lenF A.2) ca], stepV sp pa pn pc] W fun e w' => ∃ a' c', e = .returned (.tuple #[.agg #[.string y.1.1, .int .i64 y.1.2, .slice a' (lenF y.2) c'], .int .i64 ec]) ∧ OwnTm false (fun q => W.heap.size ≤ q) w' y.1 a' c' y.2 ∧ Below W.heap.size W w') := fun W hW => HG0.out rfl W (HST3.out.low.trans (hW.mono HST3.out.low.size))
            have HK1 : Hid (∀ W, Below V3.heap.size V3 W → Calls Try.prog 15 #[.slice p n c, .agg #[.string A.1.1, .int .i64 A.1.2, .slice a (lenF A.2) ca], stepV sp pa pn pc] W fun e w' => ∃ q d, e = .returned (.tuple #[stepV bs q pp.length d, .int .i64 ec]) ∧ IntsAt w' q pp.length pp ∧ Below W.heap.size W w' ∧ ∀ ad, q = some ad → ∃ cur, w'.heap[ad.block]? = some (.cells cur 3 (0, 0))) := fun W hW => HK0.out rfl W (HST3.out.low.trans (hW.mono HST3.out.low.size))
            have k0 := hst3.arg.v (k := 0) rfl; have k1 := hst3.arg.v (k := 1) rfl; have k2 := hst3.arg.v (k := 2) rfl; have k3 := hst3.arg.v (k := 3) rfl; have k7 := hst3.arg.v (k := 7) rfl
            have t0 := below_cell hb3r _ _ HT0.out; have t1 := below_cell hb3r _ _ HT1.out; have t2 := below_cell hb3r _ _ HT2.out; have t3 := below_cell hb3r _ _ HT3.out; have t4 := below_cell hb3r _ _ HT4.out
            clear hst3 hb3r HG0 HK0
            go_wp2_with fail
            -- y, g := the document's Do
            go_cut [12, 13] (fun x e w' => ∃ B a7 c7, x = .pointer (some ⟨B, 0, none⟩) ∧ e = .int .i64 ec ∧ Box w' B 26 #[.string y.1.1, .int .i64 y.1.2, .slice a7 (lenF y.2) c7] ∧ TmAt w' y.1 a7 c7 y.2 ∧ Below V3.heap.size V3 w')
            case first =>
              go_region_held3 (fun w' => w'.cell? ⟨w.heap.size, 0, none⟩ = some (.slice p n c) ∧ w'.cell? ⟨w.heap.size, 1, none⟩ = some (.string A.1.1) ∧ w'.cell? ⟨w.heap.size, 2, none⟩ = some (.int .i64 A.1.2) ∧ w'.cell? ⟨w.heap.size, 3, none⟩ = some (.slice a (lenF A.2) ca) ∧ w'.cell? ⟨w.heap.size, 7, none⟩ = some (.slice (some ⟨sb, so, none⟩) Ls.length lc) ∧ w'.cell? ⟨sb, so + j * 5, none⟩ = some (.int .i64 sp.kind) ∧ w'.cell? ⟨sb, so + j * 5 + 1, none⟩ = some (.slice pa pn pc) ∧ w'.cell? ⟨sb, so + j * 5 + 2, none⟩ = some (.int .i64 sp.at_) ∧ w'.cell? ⟨sb, so + j * 5 + 3, none⟩ = some (.int .i64 sp.many) ∧ w'.cell? ⟨sb, so + j * 5 + 4, none⟩ = some (.int .i64 sp.sym)) ((first | (go_split_ands; refine ⟨?_, ?_, ?_, ?_, ?_, ?_, ?_, ?_, ?_, ?_⟩ <;> ((with_reducible refine below_cell HB7.out _ _ ?_); assumption)) | (have hqq := HX7.out; clear hqq; go_split_ands; refine ⟨?_, ?_, ?_, ?_, ?_, ?_, ?_, ?_, ?_, ?_⟩ <;> (refine below_cell (sets_below HB7.out (Nat.le_refl _) _ _ _) _ _ ?_; assumption)) | (go_split_ands; refine ⟨?_, ?_, ?_, ?_, ?_, ?_, ?_, ?_, ?_, ?_⟩ <;> (refine below_cell (HB7.out.alloc HB7.out.size _) _ _ ?_; assumption)) | (go_split_ands; refine ⟨?_, ?_, ?_, ?_, ?_, ?_, ?_, ?_, ?_, ?_⟩ <;> (refine below_cell ((Below.refl _ V3).alloc (Nat.le_refl _) _) _ _ ?_; assumption)) | go_keep | fail)) ((first | (go_at_call 14; (with_reducible refine Calls.mono (HG1.out (World.drew V3) (Below.refl _ V3).drew) ?_); rintro e w7 ⟨a7, c7, rfl, hF7, hb7⟩; have HF7 : Hid (OwnTm false (fun q => V3.heap.size ≤ q) w7 y.1 a7 c7 y.2) := hF7; have HB7 : Hid (Below V3.heap.size V3 w7) := ((Below.refl _ V3).drew).trans hb7; clear hF7 hb7) | (go_at_call 14; refine (HG1.out (World.drew (World.alloc V3 (.cells #[.string ⟨#[]⟩, .int .i64 0, .slice none 0 0] 26))) ((Below.refl _ V3).alloc (Nat.le_refl _) _).drew).mono ?_; rintro e w7 ⟨a7, c7, rfl, hF7, hb7⟩; have HF7 : Hid (OwnTm false (fun q => V3.heap.size < q) w7 y.1 a7 c7 y.2) := hF7.mono (fun q _ hq => by have hq : (World.drew (World.alloc V3 (.cells #[.string ⟨#[]⟩, .int .i64 0, .slice none 0 0] 26))).heap.size ≤ q := hq; rw [show (World.drew (World.alloc V3 (.cells #[.string ⟨#[]⟩, .int .i64 0, .slice none 0 0] 26))).heap.size = V3.heap.size + 1 from World.size_alloc _ _] at hq; omega); have HB7 : Hid (Below V3.heap.size V3 w7) := (((Below.refl _ V3).alloc (Nat.le_refl _) _).drew).trans (hb7.mono (by show _ ≤ (V3.alloc _).heap.size; rw [World.size_alloc]; omega)); have HX7 : Hid (Box w7 V3.heap.size 26 #[.string ⟨#[]⟩, .int .i64 0, .slice none 0 0]) := Box.below (W := World.drew (World.alloc V3 (.cells #[.string ⟨#[]⟩, .int .i64 0, .slice none 0 0] 26))) (Box.new V3 26 _) hb7; have z0 := HX7.out.v (k := 0) rfl; have z1 := HX7.out.v (k := 1) rfl; have z2 := HX7.out.v (k := 2) rfl; have zf0 := HX7.out.f 0; have zf1 := HX7.out.f 1; have zf2 := HX7.out.f 2; clear hF7 hb7) | fail))
              all_goals (go_wp2_with fail; go_meet)
              all_goals first
                | exact ⟨V3.heap.size, a7, c7, rfl, rfl, sets3_box HX7.out _ _ _, (HF7.out.keep (fun q hq _ => sets_far (by omega) _ _ _)).tm, sets_below HB7.out (Nat.le_refl _) _ _ _⟩
                | exact ⟨w7.heap.size, a7, c7, rfl, rfl, Box.new _ _ _, (HF7.out.below (alloc_below0 _ _)).tm, HB7.out.alloc HB7.out.size _⟩
            case rest =>
              obtain ⟨B4, a7, c7, rfl, rfl, hX4, hT4, hW4⟩ := hcut
              obtain ⟨V4, rfl⟩ : ∃ V4, V4 = wc := ⟨_, rfl⟩
              have k0' := below_cell hW4 _ _ k0; have k1' := below_cell hW4 _ _ k1; have k2' := below_cell hW4 _ _ k2; have k3' := below_cell hW4 _ _ k3; have k7' := below_cell hW4 _ _ k7
              have t0' := below_cell hW4 _ _ t0; have t1' := below_cell hW4 _ _ t1; have t2' := below_cell hW4 _ _ t2; have t3' := below_cell hW4 _ _ t3; have t4' := below_cell hW4 _ _ t4
              have HX4 := hid hX4; have HTY := hid hT4; have HW4 := hid hW4
              clear hX4 hT4 hW4 k0 k1 k2 k3 k7 t0 t1 t2 t3 t4 HG1
              go_wp2_with fail
              -- c, h := the document's Back
              go_cut [14, 15] (fun x e w' => ∃ B q8 d8, x = .pointer (some ⟨B, 0, none⟩) ∧ e = .int .i64 ec ∧ Box w' B 39 (stepC bs q8 pp.length d8) ∧ IntsAt w' q8 pp.length pp ∧ Below V4.heap.size V4 w')
              case first =>
                go_region_held3 (fun w' => w'.cell? ⟨w.heap.size, 0, none⟩ = some (.slice p n c) ∧ w'.cell? ⟨w.heap.size, 1, none⟩ = some (.string A.1.1) ∧ w'.cell? ⟨w.heap.size, 2, none⟩ = some (.int .i64 A.1.2) ∧ w'.cell? ⟨w.heap.size, 3, none⟩ = some (.slice a (lenF A.2) ca) ∧ w'.cell? ⟨w.heap.size, 7, none⟩ = some (.slice (some ⟨sb, so, none⟩) Ls.length lc) ∧ w'.cell? ⟨sb, so + j * 5, none⟩ = some (.int .i64 sp.kind) ∧ w'.cell? ⟨sb, so + j * 5 + 1, none⟩ = some (.slice pa pn pc) ∧ w'.cell? ⟨sb, so + j * 5 + 2, none⟩ = some (.int .i64 sp.at_) ∧ w'.cell? ⟨sb, so + j * 5 + 3, none⟩ = some (.int .i64 sp.many) ∧ w'.cell? ⟨sb, so + j * 5 + 4, none⟩ = some (.int .i64 sp.sym)) ((first | (go_split_ands; refine ⟨?_, ?_, ?_, ?_, ?_, ?_, ?_, ?_, ?_, ?_⟩ <;> ((with_reducible refine below_cell HB8.out _ _ ?_); assumption)) | (have hqq := HX8.out; clear hqq; go_split_ands; refine ⟨?_, ?_, ?_, ?_, ?_, ?_, ?_, ?_, ?_, ?_⟩ <;> (refine below_cell (sets5_below HB8.out (Nat.le_refl _) _ _ _ _ _) _ _ ?_; assumption)) | (go_split_ands; refine ⟨?_, ?_, ?_, ?_, ?_, ?_, ?_, ?_, ?_, ?_⟩ <;> (refine below_cell (HB8.out.alloc HB8.out.size _) _ _ ?_; assumption)) | (go_split_ands; refine ⟨?_, ?_, ?_, ?_, ?_, ?_, ?_, ?_, ?_, ?_⟩ <;> (refine below_cell ((Below.refl _ V4).alloc (Nat.le_refl _) _) _ _ ?_; assumption)) | go_keep | fail)) ((first | (go_at_call 15; (with_reducible refine Calls.mono (HK1.out (World.drew V4) HW4.out.drew) ?_); rintro e w8 ⟨q8, d8, rfl, hI8, hb8, hl8⟩; have HI8 : Hid (IntsAt w8 q8 pp.length pp) := hI8; have HL8 : Hid (∀ ad, q8 = some ad → ∃ cur, w8.heap[ad.block]? = some (.cells cur 3 (0, 0))) := hl8; have HB8 : Hid (Below V4.heap.size V4 w8) := ((Below.refl _ V4).drew).trans hb8; clear hI8 hb8 hl8) | (go_at_call 15; refine (HK1.out (World.drew (World.alloc V4 (.cells #[.int .i64 0, .slice none 0 0, .int .i64 0, .int .i64 0, .int .i64 0] 39))) (HW4.out.alloc HW4.out.size _).drew).mono ?_; rintro e w8 ⟨q8, d8, rfl, hI8, hb8, hl8⟩; have HI8 : Hid (IntsAt w8 q8 pp.length pp) := hI8; have HL8 : Hid (∀ ad, q8 = some ad → ∃ cur, w8.heap[ad.block]? = some (.cells cur 3 (0, 0))) := hl8; have HB8 : Hid (Below V4.heap.size V4 w8) := (((Below.refl _ V4).alloc (Nat.le_refl _) _).drew).trans (hb8.mono (by show _ ≤ (V4.alloc _).heap.size; rw [World.size_alloc]; omega)); have HX8 : Hid (Box w8 V4.heap.size 39 (stepC zSp none 0 0)) := Box.below (W := World.drew (World.alloc V4 (.cells #[.int .i64 0, .slice none 0 0, .int .i64 0, .int .i64 0, .int .i64 0] 39))) (Box.new V4 39 _) hb8; have z0 := HX8.out.v (k := 0) rfl; have z1 := HX8.out.v (k := 1) rfl; have z2 := HX8.out.v (k := 2) rfl; have z3 := HX8.out.v (k := 3) rfl; have z4 := HX8.out.v (k := 4) rfl; have zf0 := HX8.out.f 0; have zf1 := HX8.out.f 1; have zf2 := HX8.out.f 2; have zf3 := HX8.out.f 3; have zf4 := HX8.out.f 4; clear hI8 hb8 hl8) | fail))
                all_goals (go_wp2_with fail; go_meet)
                all_goals first
                  | exact ⟨V4.heap.size, q8, d8, rfl, rfl, sets5_box HX8.out _ _ _ _ _, ints_far HI8.out HL8.out HX8.out (fun q hq => sets5_far hq _ _ _ _ _), sets5_below HB8.out (Nat.le_refl _) _ _ _ _ _⟩
                  | exact ⟨w8.heap.size, q8, d8, rfl, rfl, Box.new _ _ _, HI8.out.below (alloc_below0 _ _), HB8.out.alloc HB8.out.size _⟩
              case rest =>
                obtain ⟨B5, q8, d8, rfl, rfl, hX5, hI5, hW5⟩ := hcut
                obtain ⟨V5, rfl⟩ : ∃ V5, V5 = wc := ⟨_, rfl⟩
                have hb35 : Below V3.heap.size V3 V5 := HW4.out.trans (hW5.mono HW4.out.size)
                have HB35 := hid hb35
                have HXA := hid (HX1.out.below hb35); have HFA := hid (HF1.out.below hb35); have HXB := hid (HX2.out.below hb35); have HIB := hid (HI2.out.below hb35)
                have HXC := hid (HX4.out.below hW5); have HTC := hid (HTY.out.below hW5); have HXD := hid hX5; have HID := hid hI5
                have HST5 := hid (HST3.out.below hb35)
                have HEX := hid (exact_any y.1 y.2 a4 a7 c4 c7 V5 HFA.out.tm HTC.out)
                have p0 := HXA.out.v (k := 0) rfl; have p1 := HXA.out.v (k := 1) rfl; have p2 := HXA.out.v (k := 2) rfl
                have q0 := HXC.out.v (k := 0) rfl; have q1 := HXC.out.v (k := 1) rfl; have q2 := HXC.out.v (k := 2) rfl
                clear hX5 hI5 hW5 hb35 k0' k1' k2' k3' k7' t0' t1' t2' t3' t4' HK1
                go_upto_region 16 with (first | (go_at_call 16; refine HEX.out.mono ?_; rintro e V6 ⟨rfl, hb6⟩; have HB6 := hid hb6; clear hb6) | fail)
                have XB := HXB.out.below HB6.out; have XD := HXD.out.below HB6.out
                have HSM := hid (lsame_any bs pp q5 q8 pp.length d5 d8 V6 (HIB.out.below HB6.out) (HID.out.below HB6.out) HPP.out)
                clear p0 p1 p2 q0 q1 q2 HEX
                have p0 := XB.v (k := 0) rfl; have p1 := XB.v (k := 1) rfl; have p2 := XB.v (k := 2) rfl; have p3 := XB.v (k := 3) rfl; have p4 := XB.v (k := 4) rfl
                have q0 := XD.v (k := 0) rfl; have q1 := XD.v (k := 1) rfl; have q2 := XD.v (k := 2) rfl; have q3 := XD.v (k := 3) rfl; have q4 := XD.v (k := 4) rfl
                clear XB XD
                go_upto_region 17 with (first | (go_at_call 17; refine HSM.out.mono ?_; rintro e V7 ⟨rfl, hb7⟩; have HB7 := hid hb7; clear hb7) | fail)
                have hb57 : Below V5.heap.size V5 V7 := HB6.out.trans (HB7.out.mono HB6.out.size)
                have HB57 := hid hb57
                have XA := HXA.out.below hb57
                have HSP := hid (spoil_any _ y.1 y.2 a4 c4 V7 (HFA.out.below hb57).sep)
                clear p0 p1 p2 p3 p4 q0 q1 q2 q3 q4 HSM hb57
                have p0 := XA.v (k := 0) rfl; have p1 := XA.v (k := 1) rfl; have p2 := XA.v (k := 2) rfl
                clear XA
                go_upto_region 20 with (first | (go_at_call 18; refine HSP.out.mono ?_; rintro e V8 ⟨⟨vv, rfl⟩, hf8⟩; have HF8 := hid hf8; clear hf8) | fail)
                have hbr8 : Below wr.heap.size wr V8 := by
                  have h1 := HB3R.out.trans (HB35.out.mono HB3R.out.size)
                  have h2 := h1.trans (HB57.out.mono h1.size)
                  exact h2.trans (HF8.out.below (fun k hk => hk) h2.size)
                have hst8 := HST.out.below hbr8
                have HST8 := hid hst8
                have HKP := hid (kept_any _ A.1 A.2 ta a tc ca V8 hst8.own (HA.out.below hst8.low))
                clear p0 p1 p2 HSP hbr8
                have y0 := hst8.box.v (k := 0) rfl; have y1 := hst8.box.v (k := 1) rfl; have y2 := hst8.box.v (k := 2) rfl
                have a1 := hst8.arg.v (k := 1) rfl; have a2 := hst8.arg.v (k := 2) rfl; have a3 := hst8.arg.v (k := 3) rfl
                clear hst8
                go_wp2_with (first | (go_at_call 13; refine HKP.out.mono ?_; rintro e V9 ⟨rfl, hb9⟩; have HB9 := hid hb9; clear hb9) | fail)
                go_roundw
                case rel => exact ⟨j + 1, by have := HLT.out; omega, by go_num, HST8.out.below HB9.out⟩
                case measure => simp [intOf]; omega
    · have hjn : ¬ (j : Int) < (Ls.length : Int) := by omega
      clear hst
      go_wp2
      go_ret
      exact ⟨rfl, HST.out.low⟩
end Go.Proofs.Ytokbgbbkopmngaa
namespace Go.Proofs.Ytokbgbbkopmngaa
open Go.ChangeShapes Go.WideShapes Go.ChangeAt Go.RowKit Go.Deep

set_option maxRecDepth 100000 in
theorem deriveDoes_contract (H : Type) (enc : TypeId × Value → H) (W : World) (base : Nat) (args : Array Value) (ds gs : List (DataW H)) (before : List MemPlace)
    (hval : ∀ (j : Nat) t v, Try.f3.params[j]? = some t → args[j]? = some v → Value.okWide Try.prog W .any base t v)
    (hW : DataW.Whole enc Try.prog Try.f3.params.toList Rows.deriveDoesSpec.vars false W args.toList ds gs before) (hk : Rows.uptoSmall H (ds ++ gs) = true) :
    Calls Try.prog 3 args W fun e W' => ∃ v, e = .returned v ∧ Rows.deriveDoesSpec.post enc Try.prog Try.f3 false true false false W args v W' := by
  have hW' := hW
  obtain ⟨p, q, hA0, hV, rfl, hfz, hnd⟩ := hW
  have hA : DataW.TrodAll enc Try.prog W 0 (fun _ => true) true Try.f3.params.toList args.toList ds p := hA0
  rw [Try.params3] at hA hval
  obtain ⟨v0, vs0, d0, ds0, p0, q0, hargs, rfl, rfl, h0, r0⟩ := trodAll_cons hA
  obtain ⟨rfl, rfl, rfl⟩ := trodAll_nil r0
  obtain rfl : args = #[v0] := by cases args; simp_all
  obtain ⟨rfl, rfl⟩ := trodVars_none hV
  have lt0 : ∀ x ∈ p0, x.block < W.heap.size := by obtain ⟨m, hm⟩ := h0; exact DataW.trod_lt m _ _ _ hm
  have hbulk : Rows.uptoBulk d0 ≤ 1048576 := by
    have h : Rows.uptoBulkAll ([d0] ++ []) ≤ 1048576 := of_decide_eq_true hk
    simp only [List.append_nil, Rows.uptoBulkAll] at h
    omega
  obtain ⟨p, n, c, l, A, B, a, b, ca, cb, la, ln, lc, L, rfl, hS, hTA, hTB, hAB, hL, hlc, hlm⟩ := some_open (hval 0 29 v0 rfl rfl) h0 (by omega)
  clear hA0
  have hw := does_walk p n c l (clT A) B a b ca cb la ln lc L W hS (clF_tm hTA) (by show nodesF (clF A.2) ≤ _; rw [clF_nodes]; omega) hL hlc
  unfold dsC clT at hw
  simp only [clF_len] at hw
  refine hw.mono fun e W' ⟨he, bel⟩ => ?_
  subst he
  exact ⟨_, rfl, _, _, _, [], _, [], hW', trodAll_mk1 (shut_bool Try.underlying4 _), (trodAll_cons_mk (Below.trod laidOut (by kernel_rfl) (of_decide_eq_true (by kernel_rfl)) h0 bel lt0) trodAll_mk0), rfl, bel.frame _, fun h => by cases h⟩

set_option maxRecDepth 100000 in
theorem deriveDoes_lifted (os : Os) (started : os.Started) (H : Type) (enc : TypeId × Value → H) (F : Stop.Interp) :
    ReturnsInHanded {} Try.checked os 3 .any ((Rows.OpenSpec.upto Rows.deriveDoesSpec).pre6 enc Try.prog Try.f3 Rows.deriveDoesUptoRow.domain false) (((Rows.OpenSpec.upto Rows.deriveDoesSpec).at F).post enc Try.prog Try.f3 false true false false) := by
  refine returnsInHanded_of_cond (C := Try.checked) (s := Rows.OpenSpec.upto Rows.deriveDoesSpec) (k := Rows.uptoSmall) rfl own started (by kernel_rfl) Try.func3
    (OpenSpec.witness (enc := enc) (C := Try.checked) (s := Rows.OpenSpec.upto Rows.deriveDoesSpec) (k := Rows.uptoSmall) rfl false ⟨#[], #[.agg #[.slice none 0 0, .string .empty, .int .i64 0, .slice none 0 0, .string .empty, .int .i64 0, .slice none 0 0, .slice none 0 0]], []⟩ 8 (by kernel_rfl) (by kernel_rfl) (by kernel_rfl)
      (x := ([.agg [.nil, .agg [.lit (.string []), .lit (.int .i64 0), .nil], .agg [.lit (.string []), .lit (.int .i64 0), .nil], .nil]], [], [])) (by kernel_rfl) rfl (by kernel_rfl)) ?_
  intro W base args ds gs before hval hW _ hk _
  exact deriveDoes_contract H enc W base args ds gs before hval hW hk

set_option maxRecDepth 100000 in
theorem deriveDoes_holds : Rows.DeriveDoesUptoSaid :=
  OpenClaim.holds_of_cond 3 Try.f3 rfl rfl rfl rfl rfl rfl rfl ⟨rfl, rfl, rfl, rfl, rfl⟩ rfl rfl rfl rfl rfl (by kernel_rfl) Try.func3 (by kernel_rfl)
    (of_decide_eq_true (by kernel_rfl)) (by unfold Func.isWrapper; first | (rw [if_pos (by decide +kernel)]; kernel_rfl) | (rw [if_neg (by decide +kernel)]; exact ⟨rfl, rfl⟩))
    (fun os started H enc _ F => deriveDoes_lifted os started H enc F)
end Go.Proofs.Ytokbgbbkopmngaa
