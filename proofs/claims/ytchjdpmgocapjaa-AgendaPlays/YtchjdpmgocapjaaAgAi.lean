/- What All hands out, to any loop. -/
import Derived.Test.YtchjdpmgocapjaaAgSo
import Derived.Test.YtchjdpmgocapjaaAgSn
import Derived.Test.YtchjdpmgocapjaaAgCl
import Derived.Test.YtchjdpmgocapjaaAgS
namespace Go.Proofs.Ytchjdpmgocapjaa
open Go.RowKit Go.Shelf

attribute [local go_sem] Oper.semAt_some
/-- The entries in order, as the things come out. -/
theorem sorted_all {es ms : List En} {L : List Th} {last : Int} (h : Ab es L last) (hp : ms.Perm es) (hs : ms.Pairwise (fun a b => lessE b a = false)) : ms.map tri = allL L := by
  refine all_one h.rise ?_ ((hp.map tri).trans h.perm)
  have hnd : ms.Pairwise (fun a b => a.tk ≠ b.tk) := by
    have h1 : (L.map Th.tk).Pairwise (fun a b => a ≠ b) := List.pairwise_map.2 (h.rise.imp (fun hab => by omega))
    have h2 : ((ms.map tri).map Th.tk).Perm (L.map Th.tk) := (((hp.map tri).trans h.perm).map Th.tk)
    have h3 : ((ms.map tri).map Th.tk).Pairwise (fun a b : Int => a ≠ b) := (List.Perm.pairwise_iff (R := fun a b : Int => a ≠ b) (fun hab e => hab e.symm) h2).2 h1
    have h4 := List.pairwise_map.1 h3
    have h5 := List.pairwise_map.1 h4
    exact h5
  refine List.pairwise_map.2 ?_
  refine (hs.and hnd).imp ?_
  rintro a b ⟨h1, h2⟩
  rw [less_not] at h1
  show a.wt < b.wt ∨ (a.wt = b.wt ∧ a.tk < b.tk)
  omega
set_option maxRecDepth 100000 in
set_option maxHeartbeats 8000000 in
theorem all_in (m lp bx A : Nat) (most last : Int) (L : List Th) (F : Nat → Prop) (J : Nat → Nat → World → Prop) (Jx : World → Prop) (W0 : World) (hA : AgAt W0 A most last L F) (hbx : W0.cell? ⟨bx, 0, none⟩ = some (.pointer (some ⟨A, 0, none⟩)))
    (h0 : ∀ W1, Below W0.heap.size W0 W1 → J W1.heap.size 0 W1) (hdr : ∀ V k W, J V k W → J V k W.drew)
    (hY : ∀ mm V k W t, (allL L)[k]? = some t → J V k W → V ≤ W.heap.size → W0.heap.size ≤ V → YieldAt Fence.wide mm Try.prog lp #[.int .i64 t.tk, .int .i64 t.x] W fun e W' => (∀ b, ((W0.heap.size ≤ b ∧ b < V) ∨ F b) → W'.heap[b]? = W.heap[b]?) ∧ V ≤ W'.heap.size ∧ ((e = .returned (.bool true) ∧ J V (k + 1) W') ∨ (e = .returned (.bool false) ∧ Jx W'))) :
    CallsIn Fence.wide (m + 4) Try.prog 39 #[.func (.yield lp) #[] #[], .pointer (some ⟨bx, 0, none⟩)] W0 fun e W' => (∃ v, e = .returned v) ∧ ((∃ V, J V (allL L).length W') ∨ Jx W') := by
  obtain ⟨es, v, mb, n, D, h1, h2, h3, h4, h5, f1, f2, f3, f4, f5⟩ := hA
  have hlen : es.length ≤ 65536 := by omega
  have c2 : W0.cell? ⟨A, 2, none⟩ = some v := cell_box h1.box rfl
  have hCL := clone_any v es W0 h1.q (by omega)
  have hgd : ∀ e ∈ es, GdE W0 e := fun e he => by obtain ⟨k, hk, rfl⟩ := List.getElem_of_mem he; exact ⟨_, h1.q.ents k hk⟩
  -- the row in order
  have hrow : Calls Try.prog 40 #[v] W0 fun e w' => ∃ p c, e = .returned (.slice p es.length c) ∧ Below W0.heap.size W0 w' ∧ Calls Try.prog 41 #[.slice p es.length c, .func (.func 42) #[] #[]] w' fun e2 w2 => (∃ u, e2 = .returned u) ∧ Below W0.heap.size W0 w2 ∧ ∃ ms : List En, ms.Perm es ∧ ms.Pairwise (fun a b => lessE b a = false) ∧ ∀ i (h : i < ms.length), ∃ g, p = some ⟨g, 0, none⟩ ∧ es.length ≤ c ∧ c ≤ maxLen ∧ W0.heap.size ≤ g ∧ w2.cell? ⟨g, i, none⟩ = some (.pointer (some ⟨ms[i].b, 0, none⟩)) := by
    refine hCL.mono ?_
    rintro e w1 ⟨hb, (⟨rfl, rfl⟩ | ⟨g, cap, rfl, hR⟩)⟩
    · refine ⟨none, 0, rfl, hb, (sort_none none 0 _ w1).mono ?_⟩
      rintro e2 w2 ⟨hv, rfl⟩
      exact ⟨hv, hb, [], List.Perm.refl _, List.Pairwise.nil, fun i h => absurd h (Nat.not_lt_zero _)⟩
    · refine ⟨_, _, rfl, hb, ?_⟩
      by_cases hne : es = []
      · subst hne
        refine (sort_none _ _ _ w1).mono ?_
        rintro e2 w2 ⟨hv, rfl⟩
        exact ⟨hv, hb, [], List.Perm.refl _, List.Pairwise.nil, fun i h => absurd h (Nat.not_lt_zero _)⟩
      · obtain ⟨hg, cur, r1, r2, r3, r4, r5⟩ := hR
        refine (sort_any w1 g cap cur es r1 r5 (fun e he => by obtain ⟨a, ha⟩ := hgd e he; exact ⟨a, below_blk hb ha⟩) hne (by omega)).mono ?_
        rintro e2 w2 ⟨hv, ms, cur', q1, q2, q3, q4, q5⟩
        refine ⟨hv, hb.trans (q5.below (fun k hk => by omega) hb.size), ms, q1, q2, fun i hi => ⟨g, rfl, r2, r3, hg, cell_box q3 (q4 i hi)⟩⟩
  have HROW := hid hrow; have H2 := hid h2; have HGD := hid hgd
  have HF4 := hid f4; have HF5 := hid f5
  have H0 := hid h0; have HDR := hid hdr; have HY := hid hY
  have hlz : (es.length : Int) ≤ 65536 := by omega
  clear hrow h2 hgd f4 f5 h0 hdr hY hCL h1 f1 f2 f3
  refine callsIn_of_wp Try.func39 rfl trivial ?_ rfl
  simp only [Try.ntmps39, List.size_toArray, List.length_cons, List.length_nil, Nat.reduceAdd, Nat.reduceSub, Array.replicate_succ, Array.replicate_zero, List.push_toArray, List.append_toArray, List.nil_append, List.cons_append]
  gi_wp2_with fail
  refine ⟨trivial, ?_⟩
  refine (callsIn_wide.2 HROW.out).mono ?_
  rintro e w1 ⟨p, c, rfl, hb1, hS⟩
  have HS := hid hS
  clear hS hb1 HROW
  gi_wp2_with fail
  refine ⟨trivial, ?_⟩
  refine (callsIn_wide.2 HS.out).mono ?_
  rintro e w2 ⟨⟨u, rfl⟩, hb2, ms, hp, hs, hc⟩
  have hJ := H0.out w2 hb2
  have hal := sorted_all H2.out hp hs
  have hml : ms.length = es.length := hp.length_eq
  have HJ := hid hJ; have HAL := hid hal; have HC := hid hc; have HB2 := hid hb2; have HML := hid hml; have HMP := hid hp
  clear hJ hal hc hb2 hml hp hs HS H0
  obtain ⟨V, hV⟩ : ∃ V, w2.heap.size = V := ⟨_, rfl⟩
  have HV := hid hV
  rw [hV] at HJ
  clear hV
  gi_wp2_with fail
  gi_loopw [15] (fun iv wr => ∃ k : Nat, iv = .int .i64 k ∧ k ≤ es.length ∧ J V k wr ∧ V ≤ wr.heap.size ∧ ∀ b, ((W0.heap.size ≤ b ∧ b < V) ∨ F b) → wr.heap[b]? = w2.heap[b]?) (fun iv _ => es.length - (intOf iv).toNat)
  case atStart => exact ⟨0, rfl, Nat.zero_le _, HJ.out, Nat.le_of_eq HV.out.symm, fun _ _ => rfl⟩
  case round =>
    obtain ⟨k, rfl, hk, hj, hvs, hsm⟩ := hrel
    by_cases hke : k < es.length
    · have hkm : k < ms.length := by rw [HML.out]; exact hke
      obtain ⟨g, rfl, hcc, hcm, hgw, hcg⟩ := HC.out k hkm
      have hglt := World.block_lt_of_cell? w2 _ hcg
      have hcw : wr.cell? ⟨g, k, none⟩ = some (.pointer (some ⟨ms[k].b, 0, none⟩)) := (cell_same (a := ⟨g, k, none⟩) (hsm g (.inl ⟨hgw, by rw [← HV.out]; exact hglt⟩))).trans hcg
      obtain ⟨j, hjl, ej⟩ := List.getElem_of_mem (HMP.out.subset (List.getElem_mem hkm))
      obtain ⟨at9, hat9⟩ := HGD.out ms[k] (HMP.out.subset (List.getElem_mem hkm))
      have hFb : F ms[k].b := by rw [← ej]; exact HF4.out j hjl
      have hE : EnAt wr ms[k] at9 := (hsm _ (.inr hFb)).trans (below_blk HB2.out hat9)
      have e0 : wr.drew.cell? ⟨ms[k].b, 0, none⟩ = some (.int .i64 ms[k].x) := cell_box (W := wr.drew) hE rfl
      have e2 : wr.drew.cell? ⟨ms[k].b, 2, none⟩ = some (.int .i64 ms[k].tk) := cell_box (W := wr.drew) hE rfl
      have hat : (allL L)[k]? = some (tri ms[k]) := by rw [← HAL.out, List.getElem?_map, List.getElem?_eq_getElem hkm]; rfl
      obtain ⟨fn, tmps, assign, bd, hy, hR⟩ := HY.out (m + 3) V k wr.drew (tri ms[k]) hat (HDR.out V k wr hj) hvs (by rw [← HV.out]; exact HB2.out.size)
      have HR := hid hR; have HSM := hid hsm
      have hkz : (k : Int) < (es.length : Int) := by omega
      generalize ms[k] = ek at *
      simp only [tri] at hy
      clear hR hE hat ej hcg hj hsm hFb hat9
      gi_wp2_with fail
      gi_region_with (first
        | (refine HR.out.mono ?_; intro ee W3 h4; obtain ⟨bv, rfl, hkp, hres⟩ := res_bv ⟨(⟨h4.1, h4.2.1⟩ : _ ∧ _), h4.2.2⟩; clear h4)
        | (refine ⟨(fun h => by cases h), ?_⟩; refine HR.out.mono ?_; intro ee W3 h4; obtain ⟨bv, rfl, hkp, hres⟩ := res_bv ⟨(⟨h4.1, h4.2.1⟩ : _ ∧ _), h4.2.2⟩; clear h4)
        | fail)
      all_goals
        have HKP := hid hkp; have HRES := hid hres
        clear hkp hres
        cases bv
        · gi_wp2_with fail
          refine bodyPost_ret (results_none rfl _ _ _) rfl ?_
          refine ⟨⟨_, rfl⟩, .inr ?_⟩
          rcases HRES.out with ⟨h, _⟩ | ⟨_, hjx⟩
          · cases h
          · exact hjx
        · gi_wp2_with fail
          refine ⟨⟨k + 1, by go_num, by omega, ?_, HKP.out.2, fun b hb => (HKP.out.1 b hb).trans (HSM.out b hb)⟩, by simp [intOf]; omega⟩
          rcases HRES.out with ⟨_, hj⟩ | ⟨h, _⟩
          · exact hj
          · cases h
    · have hke' : ¬ (k : Int) < (es.length : Int) := by omega
      have hkl : k = (allL L).length := by rw [← HAL.out, List.length_map, HML.out]; omega
      have HJE : Hid (J V (allL L).length wr) := hid (by rw [← hkl]; exact hj)
      clear hkl hj hsm
      gi_wp2_with fail
      refine bodyPost_end (results_none rfl _ _ _) rfl ?_
      exact ⟨⟨_, rfl⟩, .inl ⟨V, HJE.out⟩⟩
end Go.Proofs.Ytchjdpmgocapjaa
