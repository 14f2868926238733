/- What tallies hands out, to any loop. -/
import Derived.Laws.MakeOwn
import Derived.Test.YtlbmamkkbpjafabBRise
namespace Go.Proofs.Ytlbmamkkbpjafab
open Go.RowKit Go.Shelf

attribute [local go_sem] Oper.semAt_some

/-- The counts that come behind these, if any do. -/
def riseO (l : List It) (cs : List Int) : Option (List Int) := if (riseP l cs).2 = true then some (riseP l cs).1 else none
theorem made_c (n : Nat) : (madeCells (Value.int .i64 0).cells (n * 1)).toList = cAll (List.replicate n 0) := by
  rw [Nat.mul_one]
  unfold cAll
  rw [List.map_replicate]
  exact toList_madeCells_one _ _
theorem riseAt_bd {l : List It} {cs : List Int} (hl : ∀ y ∈ l, y.2 ≤ 1000000000) (hc : ∀ x ∈ cs, 0 ≤ x ∧ x ≤ 1000000000) : ∀ k, ∀ x ∈ (riseAt l cs k).1, 0 ≤ x ∧ x ≤ 1000000000
  | 0, x, hx => by
    have := List.eq_of_mem_replicate hx
    omega
  | k + 1, x, hx => by
    have ih := riseAt_bd hl hc k x
    unfold riseAt at hx
    split at hx
    · rename_i y c hy hcc
      split at hx
      · rename_i hlt
        have h1 := hl y (List.mem_of_getElem? hy)
        have h2 := hc c (List.mem_of_getElem? hcc)
        rcases List.mem_append.1 hx with h | h
        · exact hc x (List.mem_of_mem_take h)
        · rcases List.mem_cons.1 h with rfl | h
          · omega
          · have := List.eq_of_mem_replicate h
            omega
      · exact ih hx
    · exact ih hx
theorem least (p : Nat → Prop) : ∀ n, p n → ∃ k, p k ∧ ∀ m, p m → k ≤ m := fun n => by
  induction n using Nat.strongRecOn with
  | _ n ih =>
    intro hn
    by_cases h : ∃ m, m < n ∧ p m
    · obtain ⟨m, hm, hp⟩ := h
      exact ih m hm hp
    · exact ⟨n, hn, fun m hm => Nat.le_of_not_lt fun hlt => h ⟨m, hlt, hm⟩⟩
theorem least_ex {p : Nat → Prop} (h : ∃ n, p n) : ∃ k, p k ∧ ∀ m, p m → k ≤ m := let ⟨n, hn⟩ := h; least p n hn
/-- A loop that an unseen number counts down. -/
theorem loop_fuel {F : Fence} {n : Nat} {P : Program} {c : Code} {Q : Exit → Act → World → Prop} {a : Act} {w : World} (I : Nat → Act → World → Prop) (f : Nat) (h0 : I f a w)
    (round : ∀ f a w, I f a w → c.wpIn F n P (Exit.then (fun a' w' => ∃ f', f' < f ∧ I f' a' w') Q) a w) : (Code.loop c).wpIn F n P Q a w := by
  classical
  refine wpIn_loop (I := fun a w => ∃ f, I f a w) (μ := fun a w => if h : ∃ f, I f a w then Classical.choose (least_ex h) else 0) ⟨f, h0⟩ ?_
  intro a w hI
  have hf := (Classical.choose_spec (least_ex hI)).1
  refine wpIn_mono (round _ a w hf) ?_
  intro e a' w' hq
  cases e with
  | normal =>
    obtain ⟨f', hlt, hI'⟩ := hq
    have hE : ∃ f, I f a' w' := ⟨f', hI'⟩
    refine ⟨hE, ?_⟩
    simp only [dif_pos hI, dif_pos hE]
    exact Nat.lt_of_le_of_lt ((Classical.choose_spec (least_ex hE)).2 f' hI') hlt
  | _ => exact hq
set_option maxRecDepth 100000 in
set_option maxHeartbeats 4000000 in
theorem tal_in (m : Nat) (hm : 1 ≤ m) (lp Bi : Nat) (p : Option Addr) (c base2 : Nat) (l : List It) (hln : l.length ≤ 1048576) (hpos : ∀ y ∈ l, y.2 ≤ 1000000000) (M : Nat) (J : Nat → Option (List Int) → World → Prop) (Jx : World → Prop) (W0 : World)
    (hst : ∀ k st W W', J k st W → Fr (fun b => b = W0.heap.size) W W' → J k st W')
    (hit : ∀ k st W, J k st W → W.heap[Bi]? = some (.cells #[.slice p l.length c] 29 (0, 0)) ∧ W.ownsRow base2 32 3 (.slice p l.length c) l.length (itAll l))
    (hY : ∀ k cs W, k < M → J k (some cs) W → cs.length = l.length → CRow W W0.heap.size (some ⟨W0.heap.size, 0, none⟩) l.length cs → YieldAt Fence.wide (m - 1) Try.prog lp #[.slice (some ⟨W0.heap.size, 0, none⟩) l.length l.length] W fun e W' =>
      (e = .returned (.bool true) ∧ k + 1 < M ∧ J (k + 1) (riseO l cs) W' ∧ CRow W' W0.heap.size (some ⟨W0.heap.size, 0, none⟩) l.length cs) ∨ (e = .returned (.bool false) ∧ Jx W'))
    (hM : 0 < M) (h0 : J 0 (some (List.replicate l.length 0)) W0) :
    CallsIn Fence.wide m Try.prog 30 #[.func (.yield lp) #[] #[], .pointer (some ⟨Bi, 0, none⟩)] W0 fun e W' => (∃ v, e = .returned v) ∧ ((∃ k, J k none W') ∨ Jx W') := by
  obtain ⟨i0, hi0, hz0, hz1, hz2⟩ := info_parts Try.info3
  obtain ⟨n, hN⟩ : ∃ n, l.length = n := ⟨_, rfl⟩
  have hmk := run_make (P := Try.prog) W0 53 3 i0 _ Try.underlying53 hi0 hz0 .i64 .i64 (n : Int) (n : Int) (by omega) (Int.le_refl _) (by rw [hz2]; omega) (by omega)
  rw [hz1, Int.toNat_natCast] at hmk
  have hmc := made_c n
  obtain ⟨cur, hcur⟩ : ∃ cur, madeCells (Value.int .i64 0).cells (n * 1) = cur := ⟨_, rfl⟩
  have hcs : cur.size = n * 1 := by rw [← hcur, size_madeCells]
  rw [hcur] at hmk hmc
  have b0 := alloc_below0 W0 (.cells cur 3)
  have hrow : (W0.alloc (.cells cur 3)).ownsRow W0.heap.size 3 1 (.slice (some ⟨W0.heap.size, 0, none⟩) n n) n (cAll (List.replicate n 0)) := by
    rw [← hmc]
    exact ⟨by rw [Array.length_toList, hcs], .inr ⟨W0.heap.size, n, cur, rfl, Nat.le_refl _, World.alloc_heap_new W0 _, Nat.le_refl _, by unfold maxLen; omega, hcs, by rw [List.take_of_length_le (by rw [Array.length_toList, hcs]; exact Nat.le_refl _)]⟩⟩
  have HST := hid hst; have HIT := hid hit; have HY := hid hY
  have HJ0 := hid (hst 0 _ W0 _ h0 (Fr.of_below b0)); have HROW := hid hrow; have HNN := hid hN; have HPOS := hid hpos
  have k0 : W0.cell? ⟨Bi, 0, none⟩ = some (.slice p l.length c) := cell_box (hit 0 _ W0 h0).1 rfl
  clear hst hit hY hrow b0 hmc hcur hcs h0 hpos
  rw [hN] at k0 hln
  refine callsIn_of_wp Try.func30 rfl trivial ?_ rfl
  simp only [Try.ntmps30, List.size_toArray, List.length_cons, List.length_nil, Nat.reduceAdd, Nat.reduceSub, Array.replicate_succ, Array.replicate_zero, List.push_toArray, List.append_toArray, List.nil_append, List.cons_append]
  gi_wp2
  have hW1 : W0.heap.size < (W0.alloc (.cells cur 3)).heap.size := by rw [World.size_alloc]; omega
  generalize W0.alloc (.cells cur 3) = V at HJ0 HROW hmk hW1 ⊢
  clear hmk k0
  refine loop_fuel (fun f a w => ∃ k cs u7 u8 u9 u10 u11 u12 u13 u14, a = { tmps := #[.func (.yield lp) #[] #[], .pointer (some ⟨Bi, 0, none⟩), undef, .slice (some ⟨W0.heap.size, 0, none⟩) n n, .slice p n c, .int .i64 n, .slice (some ⟨W0.heap.size, 0, none⟩) n n, u7, u8, u9, u10, u11, u12, u13, u14], defers := [] } ∧ k < M ∧ f = M - k ∧ J k (some cs) w ∧ cs.length = n ∧ (∀ x ∈ cs, 0 ≤ x ∧ x ≤ 1000000000) ∧ CRow w W0.heap.size (some ⟨W0.heap.size, 0, none⟩) n cs) M ?_ ?_
  · refine ⟨0, List.replicate n 0, _, _, _, _, _, _, _, _, rfl, hM, rfl, ?_, List.length_replicate, ?_, ?_⟩
    · rw [← HNN.out]; exact HJ0.out
    · intro x hx
      have := List.eq_of_mem_replicate hx
      omega
    · show World.ownsRow _ _ 3 1 (.slice _ (List.replicate n (0 : Int)).length n) (List.replicate n (0 : Int)).length _
      rw [List.length_replicate]
      exact HROW.out
  · rintro f a wr ⟨k, cs, u7, u8, u9, u10, u11, u12, u13, u14, rfl, hk, rfl, hj, hcl, hcb, hcr⟩
    have hy := HY.out k cs wr hk hj (by rw [hcl, HNN.out]) (by rw [HNN.out]; exact hcr)
    rw [HNN.out] at hy
    obtain ⟨fn, tmps, assign, body, hy, hR⟩ := hy
    have HRR := hid hR; have HCB := hid hcb; have HCL := hid hcl
    clear hR hj hcb hcr hcl
    gi_wp2_with fail
    refine HRR.out.mono ?_
    rintro e W3 (⟨rfl, hk3, hJ3, hC3⟩ | ⟨rfl, hJx3⟩)
    · obtain ⟨hbx, hro⟩ := HIT.out _ _ _ hJ3
      have c3 : W3.cell? ⟨Bi, 0, none⟩ = some (.slice p n c) := by
        rw [HNN.out] at hbx
        exact cell_box hbx rfl
      have HRI := rise_any (some ⟨W0.heap.size, 0, none⟩) n W0.heap.size cs p c base2 l W3 hC3 hro (by rw [HCL.out, HNN.out]) (by rw [HNN.out]; exact hln) (fun x hx => by have := HCB.out x hx; omega)
      rw [HCL.out, HNN.out] at HRI
      have HR2 := hid HRI; have HJ3 := hid hJ3
      clear HRI hbx hro hJ3 hC3
      gi_wp2_with fail
      refine ⟨trivial, ?_⟩
      refine (callsIn_wide.2 HR2.out).mono ?_
      rintro e W4 ⟨rfl, hC4, hF4⟩
      have hJ4 := HST.out _ _ _ _ HJ3.out (hF4.mono (fun b hb => (Option.some.inj hb).symm))
      cases hb : (riseP l cs).2 with
      | true =>
        gi_wp2
        rw [show riseO l cs = some (riseP l cs).1 from if_pos hb] at hJ4
        exact ⟨M - (k + 1), by omega, k + 1, (riseP l cs).1, _, _, _, _, _, _, _, _, rfl, hk3, rfl, hJ4, by unfold riseP; rw [riseAt_len _ _ _ (Nat.le_refl _)]; exact HCL.out, riseAt_bd HPOS.out HCB.out _, hC4⟩
      | false =>
        gi_wp2
        rw [show riseO l cs = none from if_neg (by rw [hb]; decide)] at hJ4
        refine bodyPost_end (results_none rfl _ _ _) rfl ?_
        exact ⟨⟨_, rfl⟩, .inl ⟨_, hJ4⟩⟩
    · gi_wp2
      refine ⟨trivial, ?_⟩
      gi_wp2
      refine bodyPost_end (results_none rfl _ _ _) rfl ?_
      exact ⟨⟨_, rfl⟩, .inr hJx3⟩
end Go.Proofs.Ytlbmamkkbpjafab
