/- What rise leaves of a row of counts. -/
import Derived.Test.YtlbmamkkbpjafabQRnd
namespace Go.Proofs.Ytlbmamkkbpjafab
open Go.RowKit Go.Shelf

attribute [local go_sem] Oper.semAt_some

/-- A round, its record hidden. -/
theorem yield_by {F : Fence} {m : Nat} {P : Program} {l : Nat} {r : Loop} {W : World} {args : Array Value} {R : Ending → World → Prop} {ca bd : Code} {tm : Array Value} {ps : Array Tmp} (ha : r.assign = ca) (hb : r.body = bd) (ht : r.tmps = tm) (hp : r.params = ps) (hl : W.heap[l]? = some (.loop r)) (hrd : r.state = .ready) (hs : args.size = ps.size) (hfn : F.fn r.fn)
    (hw : ca.wpIn (F.inRound l) m P (Exit.then (fun a1 W1 => W1.heap[l]? = some (.loop r) ∧ bd.wpIn (F.inRound l) m P (rndPost l r R) a1 (W1.putObj l (.loop { r with state := .busy }))) (fun _ _ _ => False)) { tmps := (ps.zip args).foldl (fun t (p, v) => t.setIfInBounds p v) tm, defers := [] } W) :
    YieldAt F m P l args W R := by
  subst ha hb ht hp
  exact yield_round hl hrd hs hfn hw
/-- What rise keeps: its boxes, the block for deferred calls, and all but the counts' row. -/
structure RiseK (w : World) (q : Option Addr) (n d : Nat) (p : Option Addr) (nl c Y1 D : Nat) (W : World) : Prop where
  y1 : W.heap[Y1]? = some (.cells #[.slice q n d] 53 (0, 0))
  y2 : W.heap[Y1 + 1]? = some (.cells #[.slice p nl c] 29 (0, 0))
  y4 : W.heap[Y1 + 1 + 1 + 1]? = some (.cells #[.slice q n d] 53 (0, 0))
  df : W.heap[D]? = some (.deferred (some []))
  fr : Fr (fun k => q.map Addr.block = some k) w W
theorem RiseK.putObj {w : World} {q : Option Addr} {n d : Nat} {p : Option Addr} {nl c Y1 D : Nat} {W : World} (h : RiseK w q n d p nl c Y1 D W) (l : Nat) (o : Obj) (hl : w.heap.size ≤ l) (h1 : l ≠ Y1) (h2 : l ≠ Y1 + 1) (h4 : l ≠ Y1 + 1 + 1 + 1) (hD : l ≠ D) : RiseK w q n d p nl c Y1 D (W.putObj l o) :=
  ⟨(World.putObj_heap_other (fun e => h1 e.symm)).trans h.y1, (World.putObj_heap_other (fun e => h2 e.symm)).trans h.y2, (World.putObj_heap_other (fun e => h4 e.symm)).trans h.y4, (World.putObj_heap_other (fun e => hD e.symm)).trans h.df,
    ⟨⟨h.fr.low.os, h.fr.low.tape, h.fr.low.output, by rw [show (W.putObj l o).heap.size = W.heap.size by simp [World.putObj]]; exact h.fr.low.size, fun k hk => absurd hk (Nat.not_lt_zero k)⟩, fun k hk hA => (World.putObj_heap_other (by omega)).trans (h.fr.same k hk hA)⟩⟩
theorem RiseK.set {w : World} {q : Option Addr} {n d : Nat} {p : Option Addr} {nl c Y1 D g : Nat} {W : World} (h : RiseK w q n d p nl c Y1 D W) (hq : q.map Addr.block = some g) (hg : g < w.heap.size) (hw : w.heap.size ≤ Y1) (hD : w.heap.size ≤ D) (i : Nat) (v : Value) : RiseK w q n d p nl c Y1 D (W.setCell ⟨g, i, none⟩ v) :=
  ⟨(set_far (by omega) v).trans h.y1, (set_far (by omega) v).trans h.y2, (set_far (by omega) v).trans h.y4, (set_far (by omega) v).trans h.df, h.fr.trans ((fr_set W g i v).mono (fun k hk => by rw [hk]; exact hq))⟩
theorem RiseK.set3 {w : World} {q : Option Addr} {n d : Nat} {p : Option Addr} {nl c Y1 D : Nat} {W : World} (h : RiseK w q n d p nl c Y1 D W) (hw : w.heap.size ≤ Y1) (hD : Y1 + 1 + 1 + 1 < D) (v : Value) : RiseK w q n d p nl c Y1 D (W.setCell ⟨Y1 + 1 + 1, 0, none⟩ v) :=
  ⟨(set_far (by omega) v).trans h.y1, (set_far (by omega) v).trans h.y2, (set_far (by omega) v).trans h.y4, (set_far (by omega) v).trans h.df, ⟨h.fr.low.trans ((Below.refl _ W).setCell (p := ⟨Y1 + 1 + 1, 0, none⟩) (Nat.zero_le _) v), fun k hk hA => (set_far (by omega) v).trans (h.fr.same k hk hA)⟩⟩
theorem RiseK.drew {w : World} {q : Option Addr} {n d : Nat} {p : Option Addr} {nl c Y1 D : Nat} {W : World} (h : RiseK w q n d p nl c Y1 D W) : RiseK w q n d p nl c Y1 D W.drew := ⟨h.y1, h.y2, h.y4, h.df, ⟨h.fr.low.drew, h.fr.same⟩⟩
theorem RiseK.drewN {w : World} {q : Option Addr} {n d : Nat} {p : Option Addr} {nl c Y1 D : Nat} {W : World} (h : RiseK w q n d p nl c Y1 D W) (m : Nat) : RiseK w q n d p nl c Y1 D (W.drewN m) := ⟨h.y1, h.y2, h.y4, h.df, ⟨⟨h.fr.low.os, h.fr.low.tape, h.fr.low.output, h.fr.low.size, fun k hk => absurd hk (Nat.not_lt_zero k)⟩, h.fr.same⟩⟩
theorem fr_put {A : Nat → Prop} {w W : World} (h : Fr A w W) {l : Nat} (hl : w.heap.size ≤ l) (o : Obj) : Fr A w (W.putObj l o) :=
  ⟨⟨h.low.os, h.low.tape, h.low.output, by rw [show (W.putObj l o).heap.size = W.heap.size by simp [World.putObj]]; exact h.low.size, fun k hk => absurd hk (Nat.not_lt_zero k)⟩, fun k hk hA => (World.putObj_heap_other (by omega)).trans (h.same k hk hA)⟩
theorem loop_again {r : Loop} (h1 : r.state = .ready) (h2 : r.pending = none) : ({ r with state := .ready, pending := none } : Loop) = r := by
  cases r
  simp only at h1 h2
  subst h1 h2
  rfl
theorem rise_start (w : World) (q : Option Addr) (n d : Nat) (p : Option Addr) (nl c : Nat) (r : Loop) (W0 : World) (hW0 : W0 = (((w.alloc (.cells #[.slice q n d] 53)).alloc (.cells #[.slice p nl c] 29)).alloc (.cells #[.bool false] 4)).alloc (.cells #[.slice q n d] 53)) :
    W0.heap.size = w.heap.size + 1 + 1 + 1 + 1 ∧ RiseK w q n d p nl c w.heap.size W0.heap.size ((W0.alloc (.deferred (some []))).alloc (.loop r)) ∧ ((W0.alloc (.deferred (some []))).alloc (.loop r)).heap[W0.heap.size + 1]? = some (.loop r) ∧ ((W0.alloc (.deferred (some []))).alloc (.loop r)).heap[w.heap.size + 1 + 1]? = some (.cells #[.bool false] 4 (0, 0)) ∧ Below w.heap.size w ((W0.alloc (.deferred (some []))).alloc (.loop r)) := by
  have b1 := alloc_below0 w (.cells #[.slice q n d] 53)
  have n1 := World.alloc_heap_new w (.cells #[.slice q n d] 53)
  have b2 := alloc_below0 (w.alloc (.cells #[.slice q n d] 53)) (.cells #[.slice p nl c] 29)
  have n2 := World.alloc_heap_new (w.alloc (.cells #[.slice q n d] 53)) (.cells #[.slice p nl c] 29)
  have b3 := alloc_below0 ((w.alloc (.cells #[.slice q n d] 53)).alloc (.cells #[.slice p nl c] 29)) (.cells #[.bool false] 4)
  have n3 := World.alloc_heap_new ((w.alloc (.cells #[.slice q n d] 53)).alloc (.cells #[.slice p nl c] 29)) (.cells #[.bool false] 4)
  have b4 := alloc_below0 (((w.alloc (.cells #[.slice q n d] 53)).alloc (.cells #[.slice p nl c] 29)).alloc (.cells #[.bool false] 4)) (.cells #[.slice q n d] 53)
  have n4 := World.alloc_heap_new (((w.alloc (.cells #[.slice q n d] 53)).alloc (.cells #[.slice p nl c] 29)).alloc (.cells #[.bool false] 4)) (.cells #[.slice q n d] 53)
  rw [← hW0] at b4 n4
  have hs : W0.heap.size = w.heap.size + 1 + 1 + 1 + 1 := by rw [hW0]; simp only [World.size_alloc]
  have b5 := alloc_below0 W0 (.deferred (some []))
  have n5 := World.alloc_heap_new W0 (.deferred (some []))
  have b6 := alloc_below0 (W0.alloc (.deferred (some []))) (.loop r)
  have n6 := World.alloc_heap_new (W0.alloc (.deferred (some []))) (.loop r)
  have hs5 : (W0.alloc (.deferred (some []))).heap.size = w.heap.size + 1 + 1 + 1 + 1 + 1 := by rw [World.size_alloc, hs]
  simp only [World.size_alloc] at b2 b3 b4 n2 n3 n4
  have B6 := b5.trans (b6.mono b5.size)
  rw [hs5] at n6 b6
  rw [hs] at n5 b5 B6 ⊢
  have m1 := (B6.block _ (by omega)).trans ((b4.block w.heap.size (by omega)).trans ((b3.block w.heap.size (by omega)).trans ((b2.block w.heap.size (by omega)).trans n1)))
  have m2 := (B6.block _ (by omega)).trans ((b4.block (w.heap.size + 1) (by omega)).trans ((b3.block (w.heap.size + 1) (by omega)).trans n2))
  have m3 := (B6.block _ (by omega)).trans ((b4.block (w.heap.size + 1 + 1) (by omega)).trans n3)
  have m4 := (B6.block _ (by omega)).trans n4
  have m5 := (b6.block (w.heap.size + 1 + 1 + 1 + 1) (by omega)).trans n5
  have BB := (((b1.trans (b2.mono (by omega))).trans (b3.mono (by omega))).trans (b4.mono (by omega))).trans (B6.mono (by omega))
  exact ⟨rfl, ⟨m1, m2, m4, m5, Fr.of_below BB⟩, n6, m3, BB⟩
theorem row_cell {W : World} {base : Nat} {q : Option Addr} {n d : Nat} {xs : List Int} (h : W.ownsRow base 3 1 (.slice q n d) n (cAll xs)) (hx : xs.length = n) (i : Nat) (hi : i < xs.length) : ∃ g, q = some ⟨g, 0, none⟩ ∧ base ≤ g ∧ g < W.heap.size ∧ W.cell? ⟨g, i, none⟩ = some (.int .i64 xs[i]) := by
  subst hx
  exact crow_cell h i hi
theorem apart_rows {W : World} {b1 b2 n1 n2 : Nat} {v1 v2 : Value} {xs1 xs2 : List Value} (h1 : W.ownsRow b1 3 1 v1 n1 xs1) (h2 : W.ownsRow b2 32 3 v2 n2 xs2) (k : Nat) (hk : v2.ownBlock = some k) : v1.ownBlock ≠ some k := fun e => by
  rcases h1.2 with ⟨a, _⟩ | ⟨g, _, _, a, _, a3, _⟩
  · rw [a] at e; cases e
  · rcases h2.2 with ⟨b, _⟩ | ⟨g', _, _, b, _, b3, _⟩
    · rw [b] at hk; cases hk
    · rw [a] at e; rw [b] at hk
      cases e; cases hk
      rw [a3] at b3
      injection b3 with b3
      injection b3 with _ b3
      exact absurd b3 (by decide)
theorem load_bool {W : World} {B : Nat} {v : Bool} {t : TypeId} (h : W.heap[B]? = some (.cells #[.bool v] t (0, 0))) : (loadVar 4 ⟨B, 0, none⟩).run Try.prog W = .ok (.bool v) W := by
  have c0 : W.cell? ⟨B, 0, none⟩ = some (.bool v) := cell_box h rfl
  simp [go_sem, loadVar, c0]
theorem put_owns {W : World} {base e size k : Nat} {v : Value} {xs : List Value} {l : Nat} {o : Obj} (h : W.ownsRow base e size v k xs) (hl : v.ownBlock ≠ some l) : (W.putObj l o).ownsRow base e size v k xs := h.kept (grownBy_putObj' W l o) (by
  cases hv : v.ownBlock with
  | none => exact .inl rfl
  | some g => exact .inr (fun e => hl (by rw [hv, e])))
set_option maxRecDepth 100000 in
set_option maxHeartbeats 4000000 in
theorem rise_any (q : Option Addr) (d base : Nat) (cs : List Int) (p : Option Addr) (c base2 : Nat) (l : List It) (w : World) (hQ : CRow w base q d cs) (hO : w.ownsRow base2 32 3 (.slice p l.length c) l.length (itAll l)) (hc : cs.length = l.length) (hln : l.length ≤ 1048576) (hcb : ∀ x ∈ cs, 0 ≤ x ∧ x ≤ 1000000000000) :
    Calls Try.prog 31 #[.slice q cs.length d, .slice p l.length c] w fun e w' => e = .returned (.bool (riseP l cs).2) ∧ CRow w' base q d (riseP l cs).1 ∧ Fr (fun k => q.map Addr.block = some k) w w' := by
  refine (callsIn_wide (n := 6)).1 ?_
  have h1 : 1 ≤ 6 := by omega
  obtain ⟨n, hN⟩ : ∃ n, cs.length = n := ⟨_, rfl⟩
  have HQ := hid hQ; have HO := hid hO; have HNN := hid hN; have HNL := hid (hN.symm.trans hc); have HCB := hid hcb
  have hnz : n ≤ 1048576 := by omega
  have HAP : Hid (∀ k, (Value.slice p l.length c).ownBlock = some k → ¬ (q.map Addr.block = some k)) := hid fun k hk e => apart_rows hQ hO k hk (by rw [own_eq]; exact e)
  have hmix : Try.prog.follows .mixedOrders = true := by kernel_rfl
  rw [hN]
  clear hQ hO hN hc hcb
  refine callsIn_of_wp_marks Try.func31 rfl trivial ?_ rfl
  simp only [Try.ntmps31, List.size_toArray, List.length_cons, List.length_nil, Nat.reduceAdd, Nat.reduceSub, Array.replicate_succ, Array.replicate_zero, List.push_toArray, List.append_toArray, List.nil_append, List.cons_append]
  gi_wp2_with fail
  refine ⟨trivial, ?_⟩
  refine (callsIn_wide.2 (backward_any q n d _)).mono ?_
  rintro e w' ⟨rfl, rfl⟩
  gi_wp2
  have HST := hid (fun r => rise_start w q n d p l.length c r _ rfl)
  generalize ((((w.alloc (.cells #[.slice q n d] 53)).alloc (.cells #[.slice p l.length c] 29)).alloc (.cells #[.bool false] 4)).alloc (.cells #[.slice q n d] 53)) = W0 at HST ⊢
  have hs0 := (HST.out default).1
  generalize hY1 : w.heap.size = Y1 at HST hs0 ⊢
  have HY1 := hid hY1
  clear hY1
  refine range_law rfl h1 (gf := 39) (lb := #[.pointer (some ⟨Y1 + 1 + 1 + 1, 0, none⟩)]) rfl trivial (enters_of Try.func39 (by kernel_rfl) rfl) ?_
  intro r hr1 hr2 hr3 hr4 hr5 hr6 hr7
  obtain ⟨_, hK0, hL0, hT0, hBB⟩ := HST.out r
  have hBB' : Below w.heap.size w ((W0.alloc (.deferred (some []))).alloc (.loop r)) := by rw [HY1.out]; exact hBB
  refine (back_in (6 - 1) (by omega) (W0.heap.size + 1) (Y1 + 1 + 1 + 1) q n d hnz
    (fun k W => RiseK w q n d p l.length c Y1 W0.heap.size W ∧ W.heap[W0.heap.size + 1]? = some (.loop r) ∧ W.heap[Y1 + 1 + 1]? = some (.cells #[.bool false] 4 (0, 0)) ∧ W.ownsRow base 3 1 (.slice q n d) n (cAll (wayC cs (n - k))) ∧ riseP l cs = riseAt l cs (n - k))
    (fun W => RiseK w q n d p l.length c Y1 W0.heap.size W ∧ W.heap[W0.heap.size + 1]? = some (.loop { r with state := .done, pending := some .ret }) ∧ W.heap[Y1 + 1 + 1]? = some (.cells #[.bool true] 4 (0, 0)) ∧ W.ownsRow base 3 1 (.slice q n d) n (cAll (riseP l cs).1) ∧ (riseP l cs).2 = true)
    ?_ ?_ _ hK0.y4 ⟨hK0, hL0, hT0, ?_, ?_⟩).mono ?_
  · rintro k W hk ⟨hKW, _, _, hrw, _⟩
    have hlw : (wayC cs (n - k)).length = n := by rw [wayC_len (by rw [HNN.out]; omega), HNN.out]
    obtain ⟨g, h2, _, _, h5⟩ := row_cell hrw hlw (n - 1 - k) (by omega)
    exact ⟨hKW.y4, g, _, h2, h5⟩
  · rintro k W x hk ⟨hKW, hL, hT, hrw, hrs⟩
    refine yield_by hr5 hr6 hr3 hr4 hL hr1 rfl hr7 ?_
    have HKW := hid hKW; have HL := hid hL; have HT := hid hT; have HRW := hid hrw; have HRS := hid hrs
    clear hKW hL hT hrw hrs hr3 hr4 hr5 hr6 hK0 hL0 hT0 hBB hBB'
    simp only [List.zip_toArray, List.zip_cons_cons, List.zip_nil_right, List.foldl_toArray, List.foldl_cons, List.foldl_nil, List.setIfInBounds_toArray, List.set_cons_succ, List.set_cons_zero]
    gi_wp2
    refine ⟨HL.out, ?_⟩
    have hlt : W0.heap.size + 1 < W.heap.size := (Array.getElem?_eq_some_iff.1 HL.out).1
    have hy1 := HY1.out
    have hqL : (Value.slice q n d).ownBlock ≠ some (W0.heap.size + 1) := fun e => by
      have h9 := HL.out
      rcases HRW.out.2 with ⟨h2, _⟩ | ⟨g, cap, cur, h2, _, h3, _⟩
      · rw [h2] at e; cases e
      · rw [h2] at e
        cases e
        rw [h3] at h9
        cases h9
    have HK2 := hid (HKW.out.putObj (W0.heap.size + 1) (.loop { r with state := .busy }) (by omega) (by omega) (by omega) (by omega) (by omega))
    have HL2 : Hid ((W.putObj (W0.heap.size + 1) (.loop { r with state := .busy })).heap[W0.heap.size + 1]? = some (.loop { r with state := .busy })) := hid (World.putObj_heap_same hlt)
    have HT2 := hid ((World.putObj_heap_other (w := W) (o := .loop { r with state := .busy }) (show Y1 + 1 + 1 ≠ W0.heap.size + 1 by omega)).trans HT.out)
    have HR2 := hid (put_owns (o := .loop { r with state := .busy }) HRW.out hqL)
    clear HKW HL HT HRW
    generalize W.putObj (W0.heap.size + 1) (.loop { r with state := .busy }) = W2 at HK2 HL2 HT2 HR2 ⊢
    obtain ⟨i, hi⟩ : ∃ i, n - 1 - k = i := ⟨_, rfl⟩
    have hnk : n - k = i + 1 := by omega
    have hil : i < l.length := by have := HNL.out; omega
    have hic : i < cs.length := by have := HNN.out; omega
    have hiw : i + 1 ≤ cs.length := hic
    rw [hnk] at HR2 HRS
    have hsu := HRS.out
    rw [riseAt_succ hil hic] at hsu
    have hrw := HR2.out
    obtain ⟨b1, o1, hq1, _, _, e3⟩ := (owns_its (owns_fr HO.out HK2.out.fr HAP.out)).cells i hil
    have hlw : (wayC cs (i + 1)).length = n := by rw [wayC_len hiw, HNN.out]
    obtain ⟨g, hg1, _, _, ec⟩ := row_cell hrw hlw i (by omega)
    have hwa := wayC_at hic
    rw [List.getElem?_eq_getElem (by omega)] at hwa
    rw [Option.some.inj hwa] at ec
    subst hg1
    have hgw : g < w.heap.size := (HQ.out.lt g rfl).2
    have hxb := HCB.out cs[i] (List.getElem_mem hic)
    have efz := owns_frozen hrw i
    have hset1 := wayC_set hic (cs[i] + 1)
    have hset0 := wayC_down hic
    subst hq1
    have y1 : W2.cell? ⟨Y1, 0, none⟩ = some (.slice (some ⟨g, 0, none⟩) n d) := cell_box HK2.out.y1 rfl
    have y2 : W2.cell? ⟨Y1 + 1, 0, none⟩ = some (.slice (some ⟨b1, o1, none⟩) l.length c) := cell_box HK2.out.y2 rfl
    have y3 : W2.cell? ⟨Y1 + 1 + 1, 0, none⟩ = some (.bool false) := cell_box HT2.out rfl
    have z3 : W2.frozen? ⟨Y1 + 1 + 1, 0, none⟩ = false := by simp [World.frozen?, show W2.heap[Y1 + 1 + 1]? = _ from HT2.out]
    generalize cs[i] = x0 at hsu ec hxb hset1
    generalize l[i].2 = yn at e3 hsu
    have HSU := hid hsu; have HS1 := hid hset1; have HS0 := hid hset0
    have HI := hid hi; have HNK := hid hnk
    have hin : (i : Int) < (n : Int) := by omega
    have hin2 : (i : Int) < (l.length : Int) := by omega
    have hgy : g ≠ Y1 + 1 + 1 := by omega
    have hgy1 : g ≠ Y1 := by omega
    rw [hi]
    have hdep : 1 ≤ 6 - 1 - 1 := by omega
    clear hsu hset1 hset0 hwa hrw hi hnk hlw hiw
    by_cases hlt2 : x0 < yn
    · rw [if_pos hlt2] at HSU
      gi_wp2_with fail
      refine quiet_round rfl hmix (by kernel_rfl) (by kernel_rfl) ?_
      repeat (gi_big_quiet_step (fail))
      refine wpQuietIn_nil ?_
      intro _ hw'
      obtain ⟨nq, hw''⟩ := hw'
      subst hw''
      gi_wp2_with fail
      have hL3 : (((W2.drewN nq).setCell ⟨g, i, none⟩ (.int .i64 (x0 + 1))).setCell ⟨Y1 + 1 + 1, 0, none⟩ (.bool true)).heap[W0.heap.size + 1]? = some (.loop { r with state := .busy }) := (set_far (by omega) _).trans ((set_far (by omega) _).trans HL2.out)
      have hT3 := set1 (v := .bool true) ((set_far (W := W2.drewN nq) (g := g) (i := i) (q := Y1 + 1 + 1) (by omega) (.int .i64 (x0 + 1))).trans HT2.out)
      have hK3 := ((HK2.out.drewN nq).set rfl hgw (by omega) (by omega) i (.int .i64 (x0 + 1))).set3 (by omega) (by omega) (.bool true)
      have hR3 : (W2.drewN nq).ownsRow base 3 1 (.slice (some ⟨g, 0, none⟩) n d) n (cAll (wayC cs (i + 1))) := HR2.out
      have hR4 := crow_set hR3 i (x0 + 1)
      rw [HS1.out] at hR4
      have hR5 := ownsRow_setCell_other hR4 (a := ⟨Y1 + 1 + 1, 0, none⟩) (fun e => hgy (Option.some.inj e)) (.bool true)
      generalize (((W2.drewN nq).setCell ⟨g, i, none⟩ (.int .i64 (x0 + 1))).setCell ⟨Y1 + 1 + 1, 0, none⟩ (.bool true)) = W5 at hL3 hT3 hK3 hR5 ⊢
      refine ⟨hL3, .inr ⟨rfl, hK3.putObj _ _ (by omega) (by omega) (by omega) (by omega) (by omega), World.putObj_heap_same (Array.getElem?_eq_some_iff.1 hL3).1, (World.putObj_heap_other (by omega)).trans hT3, ?_, by rw [HSU.out]⟩⟩
      rw [HSU.out]
      exact put_owns hR5 hqL
    · rw [if_neg hlt2] at HSU
      gi_wp2_with fail
      refine quiet_round rfl hmix (by kernel_rfl) (by kernel_rfl) ?_
      repeat (gi_big_quiet_step (fail))
      refine wpQuietIn_nil ?_
      intro _ hw'
      obtain ⟨nq, hw''⟩ := hw'
      subst hw''
      gi_wp2_with fail
      have hL3 : ((W2.drewN nq).setCell ⟨g, i, none⟩ (.int .i64 0)).heap[W0.heap.size + 1]? = some (.loop { r with state := .busy }) := (set_far (by omega) _).trans HL2.out
      have hT3 : ((W2.drewN nq).setCell ⟨g, i, none⟩ (.int .i64 0)).heap[Y1 + 1 + 1]? = some (.cells #[.bool false] 4 (0, 0)) := (set_far (by omega) _).trans HT2.out
      have hK3 := (HK2.out.drewN nq).set rfl hgw (by omega) (by omega) i (.int .i64 0)
      have hR3 : (W2.drewN nq).ownsRow base 3 1 (.slice (some ⟨g, 0, none⟩) n d) n (cAll (wayC cs (i + 1))) := HR2.out
      have hR4 := crow_set hR3 i 0
      rw [HS0.out] at hR4
      generalize ((W2.drewN nq).setCell ⟨g, i, none⟩ (.int .i64 0)) = W5 at hL3 hT3 hK3 hR4 ⊢
      have hnk1 : n - (k + 1) = i := by have := HNK.out; omega
      refine ⟨hL3, .inl ⟨rfl, hK3.putObj _ _ (by omega) (by omega) (by omega) (by omega) (by omega), ?_, (World.putObj_heap_other (by omega)).trans hT3, ?_, ?_⟩⟩
      · rw [loop_again hr1 hr2]
        exact World.putObj_heap_same (Array.getElem?_eq_some_iff.1 hL3).1
      · rw [hnk1]
        exact put_owns hR4 hqL
      · rw [hnk1]
        exact HSU.out
  · rw [Nat.sub_zero, ← HNN.out, wayC_all]
    exact crow_below HQ.out hBB'
  · rw [Nat.sub_zero]; unfold riseP; rw [HNN.out]
  · have hy1 := HY1.out
    rintro e W ⟨⟨v, rfl⟩, (⟨hKW, hL, hT, hrw, hrs⟩ | ⟨hKW, hL, hT, hrw, hb⟩)⟩
    · refine ⟨⟨v, rfl⟩, hKW.df, .inl ⟨hL, ?_⟩⟩
      have hlt := (Array.getElem?_eq_some_iff.1 hL).1
      have hqL : (Value.slice q n d).ownBlock ≠ some (W0.heap.size + 1) := fun e => by
        rcases hrw.2 with ⟨h2, _⟩ | ⟨g, cap, cur, h2, _, h3, _⟩
        · rw [h2] at e; cases e
        · rw [h2] at e
          cases e
          rw [h3] at hL
          cases hL
      have hqY : (Value.slice q n d).ownBlock ≠ some (Y1 + 1 + 1) := fun e => by
        rcases hrw.2 with ⟨h2, _⟩ | ⟨g, cap, cur, h2, _, h3, _⟩
        · rw [h2] at e; cases e
        · rw [h2] at e
          cases e
          rw [h3] at hT
          injection hT with hT
          injection hT with _ hT
          exact absurd hT (by decide)
      have hqD : (Value.slice q n d).ownBlock ≠ some W0.heap.size := fun e => by
        have h9 := hKW.df
        rcases hrw.2 with ⟨h2, _⟩ | ⟨g, cap, cur, h2, _, h3, _⟩
        · rw [h2] at e; cases e
        · rw [h2] at e
          cases e
          have h10 := h3.symm.trans h9
          cases h10
      rw [Nat.sub_self] at hrw hrs
      have HK3 := hid (hKW.putObj (W0.heap.size + 1) (.loop { r with state := .exhausted }) (by omega) (by omega) (by omega) (by omega) (by omega))
      have HT3 := hid ((World.putObj_heap_other (w := W) (o := .loop { r with state := .exhausted }) (show Y1 + 1 + 1 ≠ W0.heap.size + 1 by omega)).trans hT)
      have HR3 := hid (put_owns (o := .loop { r with state := .exhausted }) hrw hqL)
      have HRS := hid hrs
      clear hKW hL hT hrw hrs hr1 hr2 hr3 hr4 hr5 hr6 hr7 hK0 hL0 hT0 hBB hBB' hlt
      generalize W.putObj (W0.heap.size + 1) (.loop { r with state := .exhausted }) = W3 at HK3 HT3 HR3 ⊢
      have z3 : W3.frozen? ⟨Y1 + 1 + 1, 0, none⟩ = false := by simp [World.frozen?, show W3.heap[Y1 + 1 + 1]? = _ from HT3.out]
      have y3 : W3.cell? ⟨Y1 + 1 + 1, 0, none⟩ = some (.bool false) := cell_box HT3.out rfl
      gi_wp2
      have hK4 := HK3.out.set3 (by omega) (by omega) (.bool false)
      have hT4 := set1 (v := .bool false) HT3.out
      have hR4 := ownsRow_setCell_other HR3.out (a := ⟨Y1 + 1 + 1, 0, none⟩) hqY (.bool false)
      generalize W3.setCell ⟨Y1 + 1 + 1, 0, none⟩ (.bool false) = W4 at hK4 hT4 hR4 ⊢
      refine ⟨by simp, .inl ⟨_, _, rfl, run_takeDeferred hK4.df, ?_⟩⟩
      have hz : riseP l cs = (List.replicate cs.length 0, false) := HRS.out
      refine ⟨_, results_c1 rfl rfl (load_bool ((World.putObj_heap_other (by omega)).trans hT4)), ?_, ?_, ?_⟩
      · rw [hz]
      · rw [hz]
        show World.ownsRow _ _ 3 1 (.slice q (List.replicate cs.length (0 : Int)).length d) (List.replicate cs.length (0 : Int)).length _
        rw [List.length_replicate, HNN.out, ← HNN.out, ← wayC_none, HNN.out]
        exact put_owns hR4 hqD
      · exact fr_put hK4.fr (by omega) _
    · refine ⟨⟨v, rfl⟩, hKW.df, .inr ⟨.ret, hL, ?_⟩⟩
      have hqL : (Value.slice q n d).ownBlock ≠ some (W0.heap.size + 1) := fun e => by
        rcases hrw.2 with ⟨h2, _⟩ | ⟨g, cap, cur, h2, _, h3, _⟩
        · rw [h2] at e; cases e
        · rw [h2] at e
          cases e
          rw [h3] at hL
          cases hL
      have hqD : (Value.slice q n d).ownBlock ≠ some W0.heap.size := fun e => by
        have h9 := hKW.df
        rcases hrw.2 with ⟨h2, _⟩ | ⟨g, cap, cur, h2, _, h3, _⟩
        · rw [h2] at e; cases e
        · rw [h2] at e
          cases e
          have h10 := h3.symm.trans h9
          cases h10
      have HK3 := hid (hKW.putObj (W0.heap.size + 1) (.loop { r with state := .exhausted, pending := some .ret }) (by omega) (by omega) (by omega) (by omega) (by omega))
      have HT3 := hid ((World.putObj_heap_other (w := W) (o := .loop { r with state := .exhausted, pending := some .ret }) (show Y1 + 1 + 1 ≠ W0.heap.size + 1 by omega)).trans hT)
      have HR3 := hid (put_owns (o := .loop { r with state := .exhausted, pending := some .ret }) hrw hqL)
      have HB := hid hb
      clear hKW hL hT hrw hb hr1 hr2 hr3 hr4 hr5 hr6 hr7 hK0 hL0 hT0 hBB hBB'
      generalize W.putObj (W0.heap.size + 1) (.loop { r with state := .exhausted, pending := some .ret }) = W4 at HK3 HT3 HR3 ⊢
      gi_wp2
      refine ⟨by simp, .inl ⟨_, _, rfl, run_takeDeferred HK3.out.df, ?_⟩⟩
      have hlen : (riseP l cs).1.length = n := by unfold riseP; rw [riseAt_len _ _ _ (Nat.le_refl _)]; exact HNN.out
      refine ⟨_, results_c1 rfl rfl (load_bool ((World.putObj_heap_other (by omega)).trans HT3.out)), ?_, ?_, fr_put HK3.out.fr (by omega) _⟩
      · rw [HB.out]
      · show World.ownsRow _ _ 3 1 (.slice q (riseP l cs).1.length d) (riseP l cs).1.length _
        rw [hlen]
        exact put_owns HR3.out hqD
end Go.Proofs.Ytlbmamkkbpjafab
