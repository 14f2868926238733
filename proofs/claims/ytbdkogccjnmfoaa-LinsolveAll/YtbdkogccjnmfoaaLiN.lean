/- What All hands out, to any loop. -/
import Derived.Test.YtbdkogccjnmfoaaLiK
import Derived.Test.YtbdkogccjnmfoaaLiL
namespace Go.Proofs.Ytbdkogccjnmfoaa
open Go.RowKit Go.Shelf

attribute [local go_sem] Oper.semAt_some
/-- These are the minimal solutions, in order. -/
structure IsMin (p : Pb) (L : List (List Nat)) : Prop where
  perm : L.Perm (res p 13 root)
  sort : L.Pairwise (fun a b => ¬ cmpL (toI b) (toI a) < 0)
theorem toI_inj {l m : List Nat} (h : toI l = toI m) : l = m := by
  unfold toI at h
  exact (List.map_inj_right (fun a b h => by omega)).1 h
theorem sort_unique : ∀ {L M : List (List Nat)}, L.Pairwise (fun a b => ¬ cmpL (toI b) (toI a) < 0) → M.Pairwise (fun a b => ¬ cmpL (toI b) (toI a) < 0) → L.Perm M → L = M := by
  intro L
  induction L with
  | nil => intro M _ _ hp; exact (List.nil_perm.1 hp).symm
  | cons a L ih =>
    intro M hL hM hp
    cases M with
    | nil => exact absurd hp.length_eq (by simp)
    | cons b M =>
      have hL' := List.pairwise_cons.1 hL; have hM' := List.pairwise_cons.1 hM
      have e : a = b := by
        have ha : a ∈ b :: M := hp.subset List.mem_cons_self
        have hb : b ∈ a :: L := hp.symm.subset List.mem_cons_self
        rcases List.mem_cons.1 ha with h | h
        · exact h
        · rcases List.mem_cons.1 hb with h' | h'
          · exact h'.symm
          · have h1 := hM'.1 a h
            have h2 := hL'.1 b h'
            have h3 := cmpL_anti (toI a) (toI b)
            exact toI_inj (cmpL_eq _ _ (by omega))
      subst e
      rw [ih hL'.2 hM'.2 (List.perm_cons a |>.1 hp)]
theorem IsMin.unique {p : Pb} {L M : List (List Nat)} (h : IsMin p L) (k : IsMin p M) : L = M := sort_unique h.sort k.sort (h.perm.trans k.perm.symm)
/-- Coefficients in a box. -/
structure SdAt (X : Nat → Prop) (W : World) (B0 : Nat) (p : Pb) : Prop where
  ex : ∃ pa ca xa pb cb xb, W.heap[B0]? = some (.cells #[.slice pa (List.length (α := Int) xa) ca, .slice pb (List.length (α := Int) xb) cb] 48 (0, 0)) ∧ IntsIn X W pa xa ∧ IntsIn X W pb xb ∧ xa.length = p.n ∧ xb.length = p.q ∧ (∀ i (h : i < xa.length), xa[i] = (p.a i : Int)) ∧ (∀ i (h : i < xb.length), xb[i] = (p.b i : Int))
  box : X B0
theorem SdAt.same {X : Nat → Prop} {W W' : World} {B0 : Nat} {p : Pb} (h : SdAt X W B0 p) (hs : ∀ b, X b → W'.heap[b]? = W.heap[b]?) : SdAt X W' B0 p := by
  obtain ⟨pa, ca, xa, pb, cb, xb, h1, h2, h3, h4⟩ := h.ex
  exact ⟨⟨pa, ca, xa, pb, cb, xb, (hs _ h.box).trans h1, h2.same hs, h3.same hs, h4⟩, h.box⟩
theorem SdAt.mono {X Y : Nat → Prop} {W : World} {B0 : Nat} {p : Pb} (h : SdAt X W B0 p) (hs : ∀ b, X b → Y b) : SdAt Y W B0 p := by
  obtain ⟨pa, ca, xa, pb, cb, xb, h1, h2, h3, h4⟩ := h.ex
  exact ⟨⟨pa, ca, xa, pb, cb, xb, h1, h2.mono hs, h3.mono hs, h4⟩, hs _ h.box⟩
/-- The row in order. -/
theorem row_sorted {p : Pb} {base : Nat} {w : World} {v : Value} {vs : List Vc} (hV : VRow w base v vs) (hres : vs.map Vc.l = res p 13 root) (hlen : vs.length ≤ 13060694016) :
    ∃ q c, v = .slice q vs.length c ∧ Calls Try.prog 38 #[v, .func (.func 39) #[] #[]] w fun e w' => (∃ u, e = .returned u) ∧ ∃ ms : List Vc, ms.length = vs.length ∧ IsMin p (ms.map Vc.l) ∧ (ms.map Vc.b).Nodup ∧ (∀ x ∈ ms, base ≤ x.b ∧ VcAt w' x) ∧ Fr (fun q => base ≤ q) w w' ∧
      ∀ i (h : i < ms.length), ∃ g, q = some ⟨g, 0, none⟩ ∧ vs.length ≤ c ∧ c ≤ maxLen ∧ base ≤ g ∧ (∀ x ∈ ms, x.b ≠ g) ∧ w'.cell? ⟨g, i, none⟩ = some (vcV ms[i]) := by
  rcases hV.row.2 with ⟨rfl, h0⟩ | ⟨g, cap, cur, rfl, h2, h3, h4, h5, h6, h7⟩
  · have hn : vs = [] := List.eq_nil_of_length_eq_zero h0
    subst hn
    refine ⟨none, 0, rfl, (sort_none none 0 _ w).mono ?_⟩
    rintro e w' ⟨hv, rfl⟩
    exact ⟨hv, [], rfl, ⟨by rw [List.map_nil] at hres ⊢; rw [← hres], List.Pairwise.nil⟩, by simp, by simp, Fr.refl _ _, fun i h => absurd h (Nat.not_lt_zero _)⟩
  · refine ⟨_, _, rfl, ?_⟩
    by_cases hne : vs = []
    · subst hne
      refine (sort_none _ _ _ w).mono ?_
      rintro e w' ⟨hv, rfl⟩
      exact ⟨hv, [], rfl, ⟨by rw [List.map_nil] at hres ⊢; rw [← hres], List.Pairwise.nil⟩, by simp, by simp, Fr.refl _ _, fun i h => absurd h (Nat.not_lt_zero _)⟩
    · refine (sort_any w g cap cur vs h3 (fun i hi => ?_) (fun e he => (hV.vec e he).2) hne hlen).mono ?_
      · have e1 : (cur.toList.take (vs.length * 1))[i]? = (vs.map vcV)[i]? := by rw [h7]
        rw [List.getElem?_take, if_pos (by omega), Array.getElem?_toList, List.getElem?_map, List.getElem?_eq_getElem hi] at e1
        exact e1
      · rintro e w' ⟨hv, ms, cur', q1, q2, q3, q4, q5, q6⟩
        have hne : ∀ x ∈ ms, x.b ≠ g := fun x hx => by
          obtain ⟨cu, k1, _⟩ := (hV.vec x (q1.subset hx)).2.blk
          exact ne_type k1 h3 (by decide)
        refine ⟨hv, ms, q1.length_eq, ⟨?_, ?_⟩, ((q1.map Vc.b).nodup_iff).2 hV.once, fun x hx => ⟨(hV.vec x (q1.subset hx)).1, (hV.vec x (q1.subset hx)).2.same ?_⟩, q6.mono (fun q hq => by rw [hq]; exact h2), fun i hi => ⟨g, rfl, h4, h5, h2, hne, cell_box q3 (q4 i hi)⟩⟩
        · rw [← hres]; exact q1.map _
        · refine List.pairwise_map.2 (q2.imp ?_)
          intro a b hab
          unfold lessE at hab
          exact of_decide_eq_false hab
        · obtain ⟨cu, k1, _⟩ := (hV.vec x (q1.subset hx)).2.blk
          exact q6.same _ (Array.getElem?_eq_some_iff.1 k1).1 (hne x hx)
set_option maxRecDepth 100000 in
set_option maxHeartbeats 8000000 in
theorem all_in (m lp B0 : Nat) (p : Pb) (A B : Nat) (ok : p.Ok A B) (hA6 : A ≤ 6) (hB6 : B ≤ 6) (h5 : p.n ≤ 5) (h6 : p.q ≤ 5) (J : List Vc → Nat → Nat → World → Prop) (Jx : World → Prop) (W0 : World) (hS : SdAt (fun b => b < W0.heap.size) W0 B0 p)
    (h0 : ∀ vs W1, Below W0.heap.size W0 W1 → IsMin p (vs.map Vc.l) → (∀ x ∈ vs, W0.heap.size ≤ x.b ∧ VcAt W1 x) → (vs.map Vc.b).Nodup → J vs W1.heap.size 0 W1)
    (hY : ∀ mm vs V k W x, vs[k]? = some x → J vs V k W → V ≤ W.heap.size → W0.heap.size ≤ V → YieldAt Fence.wide mm Try.prog lp #[vcV x] W fun e W' => (∀ b, W0.heap.size ≤ b → b < V → (∀ x ∈ vs, x.b ≠ b) → W'.heap[b]? = W.heap[b]?) ∧ V ≤ W'.heap.size ∧ ((e = .returned (.bool true) ∧ J vs V (k + 1) W') ∨ (e = .returned (.bool false) ∧ Jx W'))) :
    CallsIn Fence.wide (m + 4) Try.prog 36 #[.func (.yield lp) #[] #[], .pointer (some ⟨B0, 0, none⟩)] W0 fun e W' => (∃ v, e = .returned v) ∧ ((∃ vs V, IsMin p (vs.map Vc.l) ∧ J vs V vs.length W') ∨ Jx W') := by
  obtain ⟨pa, ca, xa, pb, cb, xb, g1, g2, g3, g4, g5, g6, g7⟩ := hS.ex
  have HSE := hid (search_any p A B ok hA6 hB6 pa pb ca cb xa xb W0 g2 g3 g4 g5 g6 g7 h5 h6)
  have c0 : W0.cell? ⟨B0, 0, none⟩ = some (.slice pa xa.length ca) := cell_box g1 rfl
  have c1 : W0.cell? ⟨B0, 1, none⟩ = some (.slice pb xb.length cb) := cell_box g1 rfl
  have H0 := hid h0; have HY := hid hY
  have hbig := Nat.le_trans (res_len p 13 root) (siz_pow h5 h6 13 root)
  simp only [Nat.reducePow] at hbig
  have HBIG := hid hbig
  clear h0 hY g1 g2 g3 g4 g5 g6 g7 hS hbig
  refine callsIn_of_wp Try.func36 rfl trivial ?_ rfl
  simp only [Try.ntmps36, List.size_toArray, List.length_cons, List.length_nil, Nat.reduceAdd, Nat.reduceSub, Array.replicate_succ, Array.replicate_zero, List.push_toArray, List.append_toArray, List.nil_append, List.cons_append]
  gi_wp2_with fail
  refine ⟨trivial, ?_⟩
  refine (callsIn_wide.2 HSE.out).mono ?_
  rintro e w1 ⟨v, vs, rfl, hV, hres, hb1⟩
  have hlen : vs.length ≤ 13060694016 := by have h := congrArg List.length hres; rw [List.length_map] at h; have := HBIG.out; omega
  obtain ⟨q, c, rfl, hSO⟩ := row_sorted hV hres hlen
  have HSO := hid hSO; have HB1 := hid hb1
  have hvz : (vs.length : Int) ≤ 13060694016 := by omega
  clear hSO hb1 hV hres HSE
  gi_wp2_with fail
  refine ⟨trivial, ?_⟩
  refine (callsIn_wide.2 HSO.out).mono ?_
  rintro e w2 ⟨⟨u, rfl⟩, ms, hml, hmin, hnd, hat, hfr, hc⟩
  have hb2 : Below W0.heap.size W0 w2 := HB1.out.trans (hfr.below (fun k hk => hk) HB1.out.size)
  have HJ := hid (H0.out ms w2 hb2 hmin hat hnd)
  have HC := hid hc; have HB2 := hid hb2; have HML := hid hml; have HMN := hid hmin
  clear hc hb2 hml hnd hat hfr HSO hmin HB1
  obtain ⟨V, hV⟩ : ∃ V, w2.heap.size = V := ⟨_, rfl⟩
  have HV := hid hV
  rw [hV] at HJ
  clear hV
  gi_wp2_with fail
  gi_loopw [12] (fun iv wr => ∃ k : Nat, iv = .int .i64 k ∧ k ≤ vs.length ∧ J ms V k wr ∧ V ≤ wr.heap.size ∧ ∀ b, W0.heap.size ≤ b → b < V → (∀ x ∈ ms, x.b ≠ b) → wr.heap[b]? = w2.heap[b]?) (fun iv _ => vs.length - (intOf iv).toNat)
  case atStart => exact ⟨0, rfl, Nat.zero_le _, HJ.out, Nat.le_of_eq HV.out.symm, fun _ _ _ _ => rfl⟩
  case round =>
    obtain ⟨k, rfl, hk, hj, hvs, hsm⟩ := hrel
    by_cases hke : k < vs.length
    · have hkm : k < ms.length := by rw [HML.out]; exact hke
      obtain ⟨g, rfl, hcc, hcm, hgw, hgn, hcg⟩ := HC.out k hkm
      have hglt := World.block_lt_of_cell? w2 _ hcg
      have hcw : wr.cell? ⟨g, k, none⟩ = some (vcV ms[k]) := (cell_same (a := ⟨g, k, none⟩) (hsm g hgw (by rw [← HV.out]; exact hglt) hgn)).trans hcg
      obtain ⟨fn, tmps, assign, bd, hy, hR⟩ := HY.out (m + 3) ms V k wr ms[k] (List.getElem?_eq_getElem hkm) hj hvs (by rw [← HV.out]; exact HB2.out.size)
      have HR := hid hR; have HSM := hid hsm
      have hkz : (k : Int) < (vs.length : Int) := by omega
      generalize ms[k] = ek at *
      clear hR hcg hj hsm
      gi_wp2_with fail
      refine HR.out.mono ?_
      intro ee W3 h4
      obtain ⟨bv, rfl, hkp, hres⟩ := res_bv ⟨(⟨h4.1, h4.2.1⟩ : _ ∧ _), h4.2.2⟩
      clear h4
      have HKP := hid hkp; have HRES := hid hres
      clear hkp hres
      cases bv
      · gi_wp2_with fail
        refine bodyPost_ret (results_none rfl _ _ _) rfl ?_
        refine ⟨⟨_, rfl⟩, .inr ?_⟩
        rcases HRES.out with ⟨h, _⟩ | ⟨_, hjx⟩
        · cases h
        · exact hjx
      · gi_wp2_with fail
        refine ⟨⟨k + 1, by go_num, by omega, ?_, HKP.out.2, fun b hb1 hb2 hb3 => (HKP.out.1 b hb1 hb2 hb3).trans (HSM.out b hb1 hb2 hb3)⟩, by simp [intOf]; omega⟩
        rcases HRES.out with ⟨_, hj⟩ | ⟨h, _⟩
        · exact hj
        · cases h
    · have hke' : ¬ (k : Int) < (vs.length : Int) := by omega
      have hkl : k = ms.length := by rw [HML.out]; omega
      have HJE : Hid (J ms V ms.length wr) := hid (by rw [← hkl]; exact hj)
      clear hkl hj hsm
      gi_wp2_with fail
      refine bodyPost_end (results_none rfl _ _ _) rfl ?_
      exact ⟨⟨_, rfl⟩, .inl ⟨ms, HMN.out, V, HJE.out⟩⟩
end Go.Proofs.Ytbdkogccjnmfoaa
