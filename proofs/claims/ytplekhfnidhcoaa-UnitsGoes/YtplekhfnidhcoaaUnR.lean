/- Clones of numbers and texts; All's function value. -/
import Derived.Test.YtplekhfnidhcoaaUnJ
import Derived.Lib.AppendZeros
namespace Go.Proofs.Ytplekhfnidhcoaa
open Go.RowKit Go.Shelf Go.Deep

theorem Try.info9 : (Try.prog.info? 9).map (fun i => (i.zero, i.size, i.bytes)) = some (some (.string ⟨#[]⟩), 1, 16) := by kernel_rfl

theorem clonei_run (ns : List (Int)) (w : World) (a : Addr) (c : Nat) (hI : IntsAt w (some a) ns) (hn : ns.length ≤ 17592186044416) :
    ∃ g cap w', (Builtin.append_ #[29, 29] 29 #[.slice (some ⟨w.heap.size, 0, none⟩) 0 0, .slice (some a) ns.length c]).run Try.prog (w.alloc (.cells #[] 3)) = .ok (.slice (some ⟨g, 0, none⟩) ns.length cap) w' ∧ IntsAt w' (some ⟨g, 0, none⟩) ns ∧ Below w.heap.size w w' := by
  obtain ⟨i0, hi0, hz0, hz1, hz2⟩ := info_parts Try.info3
  have hb := alloc_below0 w (.cells #[] 3)
  have hE : (w.alloc (.cells #[] 3)).ownsRow w.heap.size 3 1 (.slice (some ⟨w.heap.size, 0, none⟩) 0 0) 0 [] := ⟨rfl, .inr ⟨w.heap.size, 0, #[], rfl, Nat.le_refl _, World.alloc_heap_new w _, Nat.le_refl _, Nat.zero_le _, rfl, rfl⟩⟩
  obtain ⟨v', w', hr, h2, h3, h4, _⟩ := run_append_own_at (P := Try.prog) (w.alloc (.cells #[] 3)) w.heap.size 29 29 3 i0 _ 1 8 Try.underlying29 hi0 hz0 hz1 hz2 rfl (by decide) _ 0 [] hE a ns.length c (ns.map (Value.int .i64)) (by simp) (fun j u hj => by
    rw [List.getElem?_map] at hj
    cases hj2 : ns[j]? with
    | none => rw [hj2] at hj; cases hj
    | some x =>
      rw [hj2] at hj
      obtain ⟨hlt, hx⟩ := List.getElem?_eq_some_iff.1 hj2
      obtain ⟨b, o, e1, e2⟩ := hI.cells j hlt
      cases e1
      rw [Addr.add_lit]
      have := below_cell hb _ _ e2
      rw [hx] at this
      rw [this]
      exact hj) (by
    intro u hu
    obtain ⟨x, _, rfl⟩ := List.mem_map.1 hu
    rfl) (by have := hI.small; omega) (by omega) (by rw [World.size_alloc]; omega)
  rw [Nat.zero_add, List.nil_append] at h2
  have hbl : Below w.heap.size w w' := hb.trans ((fr_grown h3).below (fun k hk => by have h7 : some w.heap.size = some k := hk; have := Option.some.inj h7; omega) hb.size)
  rcases h2.2 with ⟨h5, h6⟩ | ⟨g, cap, cur, h5, h6, h7, _⟩
  · exact absurd (h4.1 h5).1 (by intro e; cases e)
  · subst h5
    refine ⟨g, cap, w', hr, ⟨hI.small, fun i hi => ⟨g, 0, rfl, ?_⟩⟩, hbl⟩
    exact owns_at h2 i _ (by rw [List.getElem?_map, List.getElem?_eq_getElem hi]; rfl)
set_option maxRecDepth 100000 in
set_option maxHeartbeats 2000000 in
theorem clonei_any (p : Option Addr) (c : Nat) (ns : List (Int)) (w : World) (hI : IntsAt w p ns) (hn : ns.length ≤ 17592186044416) :
    Calls Try.prog 32 #[.slice p ns.length c] w fun e w' => ∃ q d, e = .returned (.slice q ns.length d) ∧ IntsAt w' q ns ∧ Below w.heap.size w w' := by
  cases p with
  | none =>
    have hn : ns = [] := by
      rcases Nat.eq_zero_or_pos ns.length with h0 | h0
      · exact List.eq_nil_of_length_eq_zero h0
      · obtain ⟨_, _, h1, _⟩ := hI.cells 0 h0
        cases h1
    subst hn
    have h1 : (binOp .eql 29 (.slice none 0 c) (.slice none 0 0)).run Try.prog w = .ok (.bool true) w := rfl
    have HI := hid hI
    clear hI
    show Calls Try.prog 32 #[.slice none 0 c] w _
    go_enter Try.func32, Try.ntmps32
    go_wp2_with fail
    go_ret
    exact ⟨none, 0, rfl, HI.out, Below.refl _ _⟩
  | some a =>
    have h1 : (binOp .eql 29 (.slice (some a) ns.length c) (.slice none 0 0)).run Try.prog w = .ok (.bool false) w := rfl
    obtain ⟨g, cap, w1, hr1, hA1, hB1⟩ := clonei_run ns w a c hI hn
    have HA1 := hid hA1; have HB1 := hid hB1
    clear hI hA1 hB1
    go_enter Try.func32, Try.ntmps32
    go_wp2_with (first
      | (at_builtin; refine Lib.wpList_append_run _ rfl _ _ _ _ rfl _ _ rfl rfl _ _ hr1 ?_; clear hr1)
      | fail)
    go_ret
    exact ⟨_, _, rfl, HA1.out, HB1.out⟩

theorem clones_run (ns : List (ByteArray)) (w : World) (a : Addr) (c : Nat) (hI : StrsAt w (some a) ns) (hn : ns.length ≤ 8796093022208) :
    ∃ g cap w', (Builtin.append_ #[33, 33] 33 #[.slice (some ⟨w.heap.size, 0, none⟩) 0 0, .slice (some a) ns.length c]).run Try.prog (w.alloc (.cells #[] 9)) = .ok (.slice (some ⟨g, 0, none⟩) ns.length cap) w' ∧ StrsAt w' (some ⟨g, 0, none⟩) ns ∧ Below w.heap.size w w' := by
  obtain ⟨i0, hi0, hz0, hz1, hz2⟩ := info_parts Try.info9
  have hb := alloc_below0 w (.cells #[] 9)
  have hE : (w.alloc (.cells #[] 9)).ownsRow w.heap.size 9 1 (.slice (some ⟨w.heap.size, 0, none⟩) 0 0) 0 [] := ⟨rfl, .inr ⟨w.heap.size, 0, #[], rfl, Nat.le_refl _, World.alloc_heap_new w _, Nat.le_refl _, Nat.zero_le _, rfl, rfl⟩⟩
  obtain ⟨v', w', hr, h2, h3, h4, _⟩ := run_append_own_at (P := Try.prog) (w.alloc (.cells #[] 9)) w.heap.size 33 33 9 i0 _ 1 16 Try.underlying33 hi0 hz0 hz1 hz2 rfl (by decide) _ 0 [] hE a ns.length c (ns.map Value.string) (by simp) (fun j u hj => by
    rw [List.getElem?_map] at hj
    cases hj2 : ns[j]? with
    | none => rw [hj2] at hj; cases hj
    | some x =>
      rw [hj2] at hj
      obtain ⟨hlt, hx⟩ := List.getElem?_eq_some_iff.1 hj2
      obtain ⟨b, o, e1, e2⟩ := hI.cells j hlt
      cases e1
      rw [Addr.add_lit]
      have := below_cell hb _ _ e2
      rw [hx] at this
      rw [this]
      exact hj) (by
    intro u hu
    obtain ⟨x, _, rfl⟩ := List.mem_map.1 hu
    rfl) (by have := hI.small; omega) (by omega) (by rw [World.size_alloc]; omega)
  rw [Nat.zero_add, List.nil_append] at h2
  have hbl : Below w.heap.size w w' := hb.trans ((fr_grown h3).below (fun k hk => by have h7 : some w.heap.size = some k := hk; have := Option.some.inj h7; omega) hb.size)
  rcases h2.2 with ⟨h5, h6⟩ | ⟨g, cap, cur, h5, h6, h7, _⟩
  · exact absurd (h4.1 h5).1 (by intro e; cases e)
  · subst h5
    refine ⟨g, cap, w', hr, ⟨hI.small, fun i hi => ⟨g, 0, rfl, ?_⟩⟩, hbl⟩
    exact owns_at h2 i _ (by rw [List.getElem?_map, List.getElem?_eq_getElem hi]; rfl)
set_option maxRecDepth 100000 in
set_option maxHeartbeats 2000000 in
theorem clones_any (p : Option Addr) (c : Nat) (ns : List (ByteArray)) (w : World) (hI : StrsAt w p ns) (hn : ns.length ≤ 8796093022208) :
    Calls Try.prog 33 #[.slice p ns.length c] w fun e w' => ∃ q d, e = .returned (.slice q ns.length d) ∧ StrsAt w' q ns ∧ Below w.heap.size w w' := by
  cases p with
  | none =>
    have hn : ns = [] := by
      rcases Nat.eq_zero_or_pos ns.length with h0 | h0
      · exact List.eq_nil_of_length_eq_zero h0
      · obtain ⟨_, _, h1, _⟩ := hI.cells 0 h0
        cases h1
    subst hn
    have h1 : (binOp .eql 33 (.slice none 0 c) (.slice none 0 0)).run Try.prog w = .ok (.bool true) w := rfl
    have HI := hid hI
    clear hI
    show Calls Try.prog 33 #[.slice none 0 c] w _
    go_enter Try.func33, Try.ntmps33
    go_wp2_with fail
    go_ret
    exact ⟨none, 0, rfl, HI.out, Below.refl _ _⟩
  | some a =>
    have h1 : (binOp .eql 33 (.slice (some a) ns.length c) (.slice none 0 0)).run Try.prog w = .ok (.bool false) w := rfl
    obtain ⟨g, cap, w1, hr1, hA1, hB1⟩ := clones_run ns w a c hI hn
    have HA1 := hid hA1; have HB1 := hid hB1
    clear hI hA1 hB1
    go_enter Try.func33, Try.ntmps33
    go_wp2_with (first
      | (at_builtin; refine Lib.wpList_append_run _ rfl _ _ _ _ rfl _ _ rfl rfl _ _ hr1 ?_; clear hr1)
      | fail)
    go_ret
    exact ⟨_, _, rfl, HA1.out, HB1.out⟩

/-- All's boxes: the places, the names. -/
structure AllAt (W : World) (E0 E1 : Nat) (q0 : Option Addr) (d0 : Nat) (us : List Int) (q1 : Option Addr) (d1 : Nat) (vs : List ByteArray) : Prop where
  b0 : Box W E0 29 #[.slice q0 us.length d0]
  b1 : Box W E1 33 #[.slice q1 vs.length d1]
  us : IntsAt W q0 us
  vs : StrsAt W q1 vs
theorem AllAt.below {W W' : World} {E0 E1 : Nat} {q0 : Option Addr} {d0 : Nat} {us : List Int} {q1 : Option Addr} {d1 : Nat} {vs : List ByteArray} (h : AllAt W E0 E1 q0 d0 us q1 d1 vs) (hb : Below W.heap.size W W') : AllAt W' E0 E1 q0 d0 us q1 d1 vs := ⟨h.b0.below hb, h.b1.below hb, h.us.below hb, h.vs.below hb⟩
theorem box_int {W : World} {B o T : Nat} {p : Option Addr} {n c : Nat} {z : Int} (h : Box W B T #[.slice p n c]) (_ : T ≠ 0) (hc : W.cell? ⟨B, o, none⟩ = some (.int .i64 z)) : False := by
  rw [h.c o] at hc
  match o, hc with
  | 0, hc => cases hc
  | _ + 1, hc => simp at hc
theorem box_str {W : World} {B o T : Nat} {p : Option Addr} {n c : Nat} {z : ByteArray} (h : Box W B T #[.slice p n c]) (_ : T ≠ 0) (hc : W.cell? ⟨B, o, none⟩ = some (.string z)) : False := by
  rw [h.c o] at hc
  match o, hc with
  | 0, hc => cases hc
  | _ + 1, hc => simp at hc
theorem all_end {w W0 v2 : World} {q0 q1 : Option Addr} {d0 d1 nu n cu cv : Nat} {pu pv : Option Addr} {us : List Int} {vs : List ByteArray} (h0 : Box W0 w.heap.size 29 #[.slice pu nu cu]) (h1 : Box W0 (w.heap.size + 1) 33 #[.slice pv n cv]) (hV : Below W0.heap.size W0 v2) (hB : Below w.heap.size w W0) (hnu : us.length = nu) (hn : vs.length = n) (hA : IntsAt v2 q0 us) (hS : StrsAt v2 q1 vs) :
    AllAt ((v2.setCell ⟨w.heap.size, 0, none⟩ (.slice q0 nu d0)).setCell ⟨w.heap.size + 1, 0, none⟩ (.slice q1 n d1)) w.heap.size (w.heap.size + 1) q0 d0 us q1 d1 vs ∧ Below w.heap.size w ((v2.setCell ⟨w.heap.size, 0, none⟩ (.slice q0 nu d0)).setCell ⟨w.heap.size + 1, 0, none⟩ (.slice q1 n d1)) := by
  have e0 := h0.below hV
  have e1 := h1.below hV
  have f1 := fr_set v2 w.heap.size 0 (.slice q0 nu d0)
  have f2 := fr_set (v2.setCell ⟨w.heap.size, 0, none⟩ (.slice q0 nu d0)) (w.heap.size + 1) 0 (.slice q1 n d1)
  have g0 := (e0.set 0 (.slice q0 nu d0)).far (q := w.heap.size + 1) (by omega) 0 (.slice q1 n d1)
  have g1 := (e1.far (q := w.heap.size) (by omega) 0 (.slice q0 nu d0)).set 0 (.slice q1 n d1)
  have hlow : Below w.heap.size w v2 := hB.trans (hV.mono hB.size)
  have hkeep : ∀ {b o : Nat} {u : Value}, v2.cell? ⟨b, o, none⟩ = some u → (b ≠ w.heap.size ∧ b ≠ w.heap.size + 1) → ((v2.setCell ⟨w.heap.size, 0, none⟩ (.slice q0 nu d0)).setCell ⟨w.heap.size + 1, 0, none⟩ (.slice q1 n d1)).cell? ⟨b, o, none⟩ = some u := fun hc hb => f2.cell (f1.cell hc (fun e => hb.1 e)) (fun e => hb.2 e)
  refine ⟨⟨by rw [hnu]; exact g0, by rw [hn]; exact g1, ⟨hA.small, fun i hi => ?_⟩, ⟨hS.small, fun i hi => ?_⟩⟩, hlow.trans ((f1.below (fun q hq => by omega) hlow.size).trans (f2.below (fun q hq => by omega) (Nat.le_trans hlow.size f1.low.size)))⟩
  · obtain ⟨b, o, k1, k2⟩ := hA.cells i hi
    refine ⟨b, o, k1, hkeep k2 ⟨fun e => ?_, fun e => ?_⟩⟩
    · subst e
      exact box_int e0 (by decide) k2
    · subst e
      exact box_int e1 (by decide) k2
  · obtain ⟨b, o, k1, k2⟩ := hS.cells i hi
    refine ⟨b, o, k1, hkeep k2 ⟨fun e => ?_, fun e => ?_⟩⟩
    · subst e
      exact box_str e0 (by decide) k2
    · subst e
      exact box_str e1 (by decide) k2
set_option maxRecDepth 100000 in
set_option maxHeartbeats 2000000 in
theorem all_any (pu : Option Addr) (cu : Nat) (us : List Int) (pv : Option Addr) (cv : Nat) (vs : List ByteArray) (w : World) (hU : IntsAt w pu us) (hV : StrsAt w pv vs) (hu : us.length ≤ 17592186044416) (hv : vs.length ≤ 8796093022208) :
    Calls Try.prog 18 #[.slice pu us.length cu, .slice pv vs.length cv] w fun e w' => e = .returned (.func (.func 34) #[] #[.pointer (some ⟨w.heap.size, 0, none⟩), .pointer (some ⟨w.heap.size + 1, 0, none⟩)]) ∧ (∃ q0 d0 q1 d1, AllAt w' w.heap.size (w.heap.size + 1) q0 d0 us q1 d1 vs) ∧ Below w.heap.size w w' := by
  obtain ⟨nu, hNU⟩ : ∃ n, us.length = n := ⟨_, rfl⟩
  obtain ⟨n, hN⟩ : ∃ n, vs.length = n := ⟨_, rfl⟩
  have b0 := (Box.new w 29 #[.slice pu nu cu]).over (.cells #[.slice pv n cv] 33)
  have b1 := Box.new (w.alloc (.cells #[.slice pu nu cu] 29)) 33 #[.slice pv n cv]
  rw [World.size_alloc] at b1
  have hb : Below w.heap.size w ((w.alloc (.cells #[.slice pu nu cu] 29)).alloc (.cells #[.slice pv n cv] 33)) := ((Below.refl _ w).alloc (Nat.le_refl _) _).alloc (by simp) _
  have HC1 : Hid (∀ W, Below w.heap.size w W → Calls Try.prog 32 #[.slice pu nu cu] W fun e w' => ∃ q d, e = .returned (.slice q nu d) ∧ IntsAt w' q us ∧ Below W.heap.size W w') := hid (fun W hW => by have := clonei_any pu cu us W (hU.below hW) hu; rw [hNU] at this; exact this)
  have HC2 : Hid (∀ W, Below w.heap.size w W → Calls Try.prog 33 #[.slice pv n cv] W fun e w' => ∃ q d, e = .returned (.slice q n d) ∧ StrsAt w' q vs ∧ Below W.heap.size W w') := hid (fun W hW => by have := clones_any pv cv vs W (hV.below hW) hv; rw [hN] at this; exact this)
  rw [hNU, hN]
  have HB := hid hb; have HX0 := hid b0; have HX1 := hid b1
  have HNU := hid hNU; have HN := hid hN
  clear hU hV hNU hN hb b0 b1
  go_enter Try.func18, Try.ntmps18
  go_wp2_with fail
  generalize (w.alloc (.cells #[.slice pu nu cu] 29)).alloc (.cells #[.slice pv n cv] 33) = W0 at HB HX0 HX1 ⊢
  refine wp_region_held_drew (S := fun _ => True) (by kernel_rfl) trivial ?_
  intro hS
  refine wpAnyH_ready (rs := [0, 2]) (by kernel_rfl) (by simp) ?_
  refine AllReadyH.cons rfl (fun K hK => ?_) (AllReadyH.cons rfl (fun K hK => ?_) AllReadyH.nil)
  · have bq : W0.drew.cell? ⟨w.heap.size, 0, none⟩ = some (.slice pu nu cu) := (HX0.out.below (Below.refl _ W0).drew).c 0
    go_simp
    refine hK.out _ _ trivial (fun hS => ?_)
    clear hK K
    try dsimp only
    refine wpAnyH_ready (rs := [1, 2]) (by kernel_rfl) (by simp) ?_
    refine AllReadyH.cons rfl (fun K hK => ?_) (AllReadyH.cons rfl (fun K hK => ?_) AllReadyH.nil)
    · go_simp
      refine Calls.mono (HC1.out _ (HB.out.drew)) ?_
      rintro e v1 ⟨q0, d0, rfl, ha1, hb1⟩
      have HA1 := hid ha1; have HV1 : Hid (Below W0.heap.size W0 v1) := hid (((Below.refl _ W0).drew).trans hb1)
      clear ha1 hb1
      refine hK.out _ _ trivial (fun hS => ?_)
      clear hK K
      try dsimp only
      refine wpAnyH_ready (rs := [2]) (by kernel_rfl) (by simp) ?_
      refine AllReadyH.cons rfl (fun K hK => ?_) AllReadyH.nil
      have bq2 : v1.cell? ⟨w.heap.size + 1, 0, none⟩ = some (.slice pv n cv) := (HX1.out.below HV1.out).c 0
      go_simp
      refine hK.out _ _ trivial (fun hS => ?_)
      clear hK K
      try dsimp only
      refine wpAnyH_ready (rs := [3]) (by kernel_rfl) (by simp) ?_
      refine AllReadyH.cons rfl (fun K hK => ?_) AllReadyH.nil
      go_simp
      refine Calls.mono (HC2.out _ (HB.out.trans (HV1.out.mono HB.out.size))) ?_
      rintro e v2 ⟨q1, d1, rfl, ha2, hb2⟩
      have HA2 := hid ha2; have HA1b := hid (HA1.out.below hb2); have HV2 : Hid (Below W0.heap.size W0 v2) := hid (HV1.out.trans (hb2.mono HV1.out.size))
      clear ha2 hb2
      refine hK.out _ _ trivial (fun hS => ?_)
      clear hK K
      try dsimp only
      refine wpAnyH_ready (rs := [4]) (by kernel_rfl) (by simp) ?_
      refine AllReadyH.cons rfl (fun K hK => ?_) AllReadyH.nil
      have s0 : v2.cell? ⟨w.heap.size, 0, none⟩ = some (.slice pu nu cu) := (HX0.out.below HV2.out).c 0
      have f0 := (HX0.out.below HV2.out).f 0
      go_simp
      refine hK.out _ _ trivial (fun hS => ?_)
      clear hK K
      try dsimp only
      refine wpAnyH_ready (rs := [5]) (by kernel_rfl) (by simp) ?_
      refine AllReadyH.cons rfl (fun K hK => ?_) AllReadyH.nil
      have hy1 := (HX1.out.below HV2.out).far (q := w.heap.size) (by omega) 0 (.slice q0 nu d0)
      have s1 : (v2.setCell ⟨w.heap.size, 0, none⟩ (.slice q0 nu d0)).cell? ⟨w.heap.size + 1, 0, none⟩ = some (.slice pv n cv) := hy1.c 0
      have f1 := hy1.f 0
      go_simp
      refine hK.out _ _ trivial (fun hS => ?_)
      clear hK K
      try dsimp only
      refine wpAnyH_done (by kernel_rfl) ?_ _
      have HE := hid (all_end (d0 := d0) (d1 := d1) HX0.out HX1.out HV2.out HB.out HNU.out HN.out HA1b.out HA2.out)
      clear s0 f0 s1 f1 hy1 hS
      generalize (v2.setCell ⟨w.heap.size, 0, none⟩ (.slice q0 nu d0)).setCell ⟨w.heap.size + 1, 0, none⟩ (.slice q1 n d1) = v3 at HE ⊢
      go_wp2
      go_ret
      exact ⟨rfl, ⟨_, _, _, _, HE.out.1⟩, HE.out.2⟩
    · have bq2 : W0.drew.cell? ⟨w.heap.size + 1, 0, none⟩ = some (.slice pv n cv) := (HX1.out.below (Below.refl _ W0).drew).c 0
      go_simp
      refine hK.out _ _ trivial (fun hS => ?_)
      clear hK K
      try dsimp only
      refine wpAnyH_ready (rs := [1]) (by kernel_rfl) (by simp) ?_
      refine AllReadyH.cons rfl (fun K hK => ?_) AllReadyH.nil
      go_simp
      refine Calls.mono (HC1.out _ (HB.out.drew)) ?_
      rintro e v1 ⟨q0, d0, rfl, ha1, hb1⟩
      have HA1 := hid ha1; have HV1 : Hid (Below W0.heap.size W0 v1) := hid (((Below.refl _ W0).drew).trans hb1)
      clear ha1 hb1
      refine hK.out _ _ trivial (fun hS => ?_)
      clear hK K
      try dsimp only
      refine wpAnyH_ready (rs := [3]) (by kernel_rfl) (by simp) ?_
      refine AllReadyH.cons rfl (fun K hK => ?_) AllReadyH.nil
      go_simp
      refine Calls.mono (HC2.out _ (HB.out.trans (HV1.out.mono HB.out.size))) ?_
      rintro e v2 ⟨q1, d1, rfl, ha2, hb2⟩
      have HA2 := hid ha2; have HA1b := hid (HA1.out.below hb2); have HV2 : Hid (Below W0.heap.size W0 v2) := hid (HV1.out.trans (hb2.mono HV1.out.size))
      clear ha2 hb2
      refine hK.out _ _ trivial (fun hS => ?_)
      clear hK K
      try dsimp only
      refine wpAnyH_ready (rs := [4]) (by kernel_rfl) (by simp) ?_
      refine AllReadyH.cons rfl (fun K hK => ?_) AllReadyH.nil
      have s0 : v2.cell? ⟨w.heap.size, 0, none⟩ = some (.slice pu nu cu) := (HX0.out.below HV2.out).c 0
      have f0 := (HX0.out.below HV2.out).f 0
      go_simp
      refine hK.out _ _ trivial (fun hS => ?_)
      clear hK K
      try dsimp only
      refine wpAnyH_ready (rs := [5]) (by kernel_rfl) (by simp) ?_
      refine AllReadyH.cons rfl (fun K hK => ?_) AllReadyH.nil
      have hy1 := (HX1.out.below HV2.out).far (q := w.heap.size) (by omega) 0 (.slice q0 nu d0)
      have s1 : (v2.setCell ⟨w.heap.size, 0, none⟩ (.slice q0 nu d0)).cell? ⟨w.heap.size + 1, 0, none⟩ = some (.slice pv n cv) := hy1.c 0
      have f1 := hy1.f 0
      go_simp
      refine hK.out _ _ trivial (fun hS => ?_)
      clear hK K
      try dsimp only
      refine wpAnyH_done (by kernel_rfl) ?_ _
      have HE := hid (all_end (d0 := d0) (d1 := d1) HX0.out HX1.out HV2.out HB.out HNU.out HN.out HA1b.out HA2.out)
      clear s0 f0 s1 f1 hy1 hS
      generalize (v2.setCell ⟨w.heap.size, 0, none⟩ (.slice q0 nu d0)).setCell ⟨w.heap.size + 1, 0, none⟩ (.slice q1 n d1) = v3 at HE ⊢
      go_wp2
      go_ret
      exact ⟨rfl, ⟨_, _, _, _, HE.out.1⟩, HE.out.2⟩
  · have bq2 : W0.drew.cell? ⟨w.heap.size + 1, 0, none⟩ = some (.slice pv n cv) := (HX1.out.below (Below.refl _ W0).drew).c 0
    go_simp
    refine hK.out _ _ trivial (fun hS => ?_)
    clear hK K
    try dsimp only
    refine wpAnyH_ready (rs := [0]) (by kernel_rfl) (by simp) ?_
    refine AllReadyH.cons rfl (fun K hK => ?_) AllReadyH.nil
    have bq : W0.drew.cell? ⟨w.heap.size, 0, none⟩ = some (.slice pu nu cu) := (HX0.out.below (Below.refl _ W0).drew).c 0
    go_simp
    refine hK.out _ _ trivial (fun hS => ?_)
    clear hK K
    try dsimp only
    refine wpAnyH_ready (rs := [1]) (by kernel_rfl) (by simp) ?_
    refine AllReadyH.cons rfl (fun K hK => ?_) AllReadyH.nil
    go_simp
    refine Calls.mono (HC1.out _ (HB.out.drew)) ?_
    rintro e v1 ⟨q0, d0, rfl, ha1, hb1⟩
    have HA1 := hid ha1; have HV1 : Hid (Below W0.heap.size W0 v1) := hid (((Below.refl _ W0).drew).trans hb1)
    clear ha1 hb1
    refine hK.out _ _ trivial (fun hS => ?_)
    clear hK K
    try dsimp only
    refine wpAnyH_ready (rs := [3]) (by kernel_rfl) (by simp) ?_
    refine AllReadyH.cons rfl (fun K hK => ?_) AllReadyH.nil
    go_simp
    refine Calls.mono (HC2.out _ (HB.out.trans (HV1.out.mono HB.out.size))) ?_
    rintro e v2 ⟨q1, d1, rfl, ha2, hb2⟩
    have HA2 := hid ha2; have HA1b := hid (HA1.out.below hb2); have HV2 : Hid (Below W0.heap.size W0 v2) := hid (HV1.out.trans (hb2.mono HV1.out.size))
    clear ha2 hb2
    refine hK.out _ _ trivial (fun hS => ?_)
    clear hK K
    try dsimp only
    refine wpAnyH_ready (rs := [4]) (by kernel_rfl) (by simp) ?_
    refine AllReadyH.cons rfl (fun K hK => ?_) AllReadyH.nil
    have s0 : v2.cell? ⟨w.heap.size, 0, none⟩ = some (.slice pu nu cu) := (HX0.out.below HV2.out).c 0
    have f0 := (HX0.out.below HV2.out).f 0
    go_simp
    refine hK.out _ _ trivial (fun hS => ?_)
    clear hK K
    try dsimp only
    refine wpAnyH_ready (rs := [5]) (by kernel_rfl) (by simp) ?_
    refine AllReadyH.cons rfl (fun K hK => ?_) AllReadyH.nil
    have hy1 := (HX1.out.below HV2.out).far (q := w.heap.size) (by omega) 0 (.slice q0 nu d0)
    have s1 : (v2.setCell ⟨w.heap.size, 0, none⟩ (.slice q0 nu d0)).cell? ⟨w.heap.size + 1, 0, none⟩ = some (.slice pv n cv) := hy1.c 0
    have f1 := hy1.f 0
    go_simp
    refine hK.out _ _ trivial (fun hS => ?_)
    clear hK K
    try dsimp only
    refine wpAnyH_done (by kernel_rfl) ?_ _
    have HE := hid (all_end (d0 := d0) (d1 := d1) HX0.out HX1.out HV2.out HB.out HNU.out HN.out HA1b.out HA2.out)
    clear s0 f0 s1 f1 hy1 hS
    generalize (v2.setCell ⟨w.heap.size, 0, none⟩ (.slice q0 nu d0)).setCell ⟨w.heap.size + 1, 0, none⟩ (.slice q1 n d1) = v3 at HE ⊢
    go_wp2
    go_ret
    exact ⟨rfl, ⟨_, _, _, _, HE.out.1⟩, HE.out.2⟩
end Go.Proofs.Ytplekhfnidhcoaa
