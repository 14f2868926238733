import Derived.Test.YtfnfbljijkjkjaaGreatKUfG
/- putInBound of the solver. -/
namespace Go.Proofs.YtfnfbljijkjkjaaGreat
open Go.RowKit Go.Shelf Go.Deep

def btn (b : Bk) : Bn := (b.1, b.2.tn)
theorem bd_at : ∀ (bs : List Bk) (i : Nat) (h : i < bs.length), (bdCells bs)[i * 4]? = some (.string bs[i].1) ∧ (bdCells bs)[i * 4 + 1]? = some (.string bs[i].2.x.1) ∧ (bdCells bs)[i * 4 + 2]? = some (.int .i64 bs[i].2.x.2) ∧ (bdCells bs)[i * 4 + 3]? = some (.slice bs[i].2.a (lenF bs[i].2.l) bs[i].2.c)
  | [], i, h => absurd h (by simp)
  | k :: r, 0, _ => ⟨rfl, rfl, rfl, rfl⟩
  | k :: r, i + 1, h => by
    have ih := bd_at r i (by simpa using h)
    have e : bdCells (k :: r) = .string k.1 :: .string k.2.x.1 :: .int .i64 k.2.x.2 :: .slice k.2.a (lenF k.2.l) k.2.c :: bdCells r := rfl
    rw [e, show (i + 1) * 4 = i * 4 + 1 + 1 + 1 + 1 by omega, show i * 4 + 1 + 1 + 1 + 1 + 1 = (i * 4 + 1) + 1 + 1 + 1 + 1 by omega, show i * 4 + 1 + 1 + 1 + 1 + 2 = (i * 4 + 2) + 1 + 1 + 1 + 1 by omega, show i * 4 + 1 + 1 + 1 + 1 + 3 = (i * 4 + 3) + 1 + 1 + 1 + 1 by omega]
    simp only [List.getElem?_cons_succ, List.getElem_cons_succ]
    exact ih
theorem bd_set : ∀ (bs : List Bk) (m : Nat) (k : Kv) (h : m < bs.length), bdCells (bs.set m (bs[m].1, k)) = (((bdCells bs).set (m * 4 + 1) (.string k.x.1)).set (m * 4 + 1 + 1) (.int .i64 k.x.2)).set (m * 4 + 1 + 2) (.slice k.a (lenF k.l) k.c)
  | [], m, k, h => absurd h (by simp)
  | q :: r, 0, k, _ => rfl
  | q :: r, m + 1, k, h => by
    have ih := bd_set r m k (by simpa using h)
    have e : bdCells (q :: r) = .string q.1 :: .string q.2.x.1 :: .int .i64 q.2.x.2 :: .slice q.2.a (lenF q.2.l) q.2.c :: bdCells r := rfl
    have e2 : bdCells ((q :: r).set (m + 1) ((q :: r)[m + 1].1, k)) = .string q.1 :: .string q.2.x.1 :: .int .i64 q.2.x.2 :: .slice q.2.a (lenF q.2.l) q.2.c :: bdCells (r.set m ((r[m]'(by simpa using h)).1, k)) := rfl
    rw [e, e2, ih, show (m + 1) * 4 + 1 = (m * 4 + 1) + 1 + 1 + 1 + 1 by omega, show (m * 4 + 1) + 1 + 1 + 1 + 1 + 1 = (m * 4 + 1 + 1) + 1 + 1 + 1 + 1 by omega, show (m * 4 + 1) + 1 + 1 + 1 + 1 + 2 = (m * 4 + 1 + 2) + 1 + 1 + 1 + 1 by omega]
    simp only [List.set_cons_succ]
theorem owns_setb {w : World} {base e size g n cap : Nat} {bs : List Bk} (h : w.ownsRow base e size (.slice (some ⟨g, 0, none⟩) n cap) n (bdCells bs)) {m : Nat} (hm : m < bs.length) (k : Kv) : (set3 w g (m * 4 + 1) k).ownsRow base e size (.slice (some ⟨g, 0, none⟩) n cap) n (bdCells (bs.set m (bs[m].1, k))) := by
  rw [bd_set bs m k hm]
  exact owns_set1 (owns_set1 (owns_set1 h _ _) _ _) _ _
theorem owns_cellb {w : World} {base e size g n cap : Nat} {bs : List Bk} (h : w.ownsRow base e size (.slice (some ⟨g, 0, none⟩) n cap) n (bdCells bs)) {m : Nat} (hm : m < bs.length) :
    w.cell? ⟨g, m * 4, none⟩ = some (.string bs[m].1) ∧ w.cell? ⟨g, m * 4 + 1, none⟩ = some (.string bs[m].2.x.1) ∧ w.cell? ⟨g, m * 4 + 1 + 1, none⟩ = some (.int .i64 bs[m].2.x.2) ∧ w.cell? ⟨g, m * 4 + 1 + 2, none⟩ = some (.slice bs[m].2.a (lenF bs[m].2.l) bs[m].2.c) := by
  obtain ⟨h0, h1, h2, h3⟩ := bd_at bs m hm
  exact ⟨owns_cell0 h h0, owns_cell0 h h1, owns_cell0 h h2, owns_cell0 h h3⟩
theorem Sv.bind {w0 : World} {B : Nat} {v1 : Value} {n g nb cap : Nat} {es : List Kv} {bs : List Bk} {W W' : World} (h : Sv w0 B v1 (.slice (some ⟨g, 0, none⟩) nb cap) n es bs W) (hnb : nb = bs.length) {nm : ByteArray} {T : Tn} {m : Nat} (hm : m < bs.length) (hp : PutTo (S0 w0.heap.size) nm T g (m * 4 + 1) bs[m].2 W W') :
    ∃ k' : Kv, k'.tn = w1N nm T bs[m].2.x bs[m].2.l ∧ Sv w0 B v1 (.slice (some ⟨g, 0, none⟩) nb cap) n es (bs.set m (bs[m].1, k')) W' ∧ Fr (fun q => q = g) W W' := by
  subst hnb
  obtain ⟨k', w1, h1, h2, h3, h4⟩ := hp
  have hs := h.below h2
  refine ⟨k', h1, ?_⟩
  rcases h4 with rfl | ⟨rfl, rfl⟩
  · obtain ⟨hg0, cur, hcur⟩ := owns_cells hs.r2 (g := g) rfl
    have hB := hs.hB
    have hBg : B ≠ g := fun e => by omega
    have hg : w0.heap.size ≤ g := by omega
    refine ⟨⟨set3_below hs.low hg _ _, hB, (set3_far hBg _ _).trans hs.box, hs.len, owns_block hs.r1 (fun q hq => set3_far (fun e => by subst e; exact row_ne hs.r2 hs.r1 (by decide) rfl hq) _ _), by rw [List.length_set]; exact owns_setb hs.r2 hm k', fun k hk => tmO_set3 hg hcur (by decide) (hs.te k hk), fun b hb => ?_⟩, (Fr.of_below h2).trans (set3_fr w1 g _ k')⟩
    rcases List.mem_or_eq_of_mem_set hb with h5 | rfl
    · exact tmO_set3 hg hcur (by decide) (hs.tb b h5)
    · exact tmO_set3 hg hcur (by decide) h3
  · have e : (bs[m].1, bs[m].2) = bs[m] := rfl
    rw [e, List.set_getElem_self]
    exact ⟨hs, Fr.of_below h2⟩
theorem bmap_set {bs bs' : List Bk} {m : Nat} (hm : m < bs.length) (hm' : m < bs'.length) {f : Tn → Tn} {k : Kv} (h : bs'.map btn = (bs.take m).map (fun q => (q.1, f q.2.tn)) ++ (bs.drop m).map btn) (hv : bs'[m].1 = bs[m].1) (hk : k.tn = f bs[m].2.tn) : (bs'.set m (bs'[m].1, k)).map btn = (bs.take (m + 1)).map (fun q => (q.1, f q.2.tn)) ++ (bs.drop (m + 1)).map btn := by
  have hl : ((bs.take m).map (fun q => (q.1, f q.2.tn))).length = m := by rw [List.length_map, List.length_take]; omega
  rw [List.map_set, h, List.drop_eq_getElem_cons hm, List.map_cons, List.set_append_right _ _ (by omega), hl, Nat.sub_self, List.set_cons_zero, List.take_succ_eq_append_getElem hm, List.map_append, List.append_assoc, hv]
  unfold btn
  rw [hk]
  rfl
theorem bmap_at {bs bs' : List Bk} {m : Nat} (hm : m < bs.length) {f : Tn → Tn} (h : bs'.map btn = (bs.take m).map (fun q => (q.1, f q.2.tn)) ++ (bs.drop m).map btn) : ∃ hm' : m < bs'.length, (bs'[m]'hm').1 = bs[m].1 ∧ (bs'[m]'hm').2.tn = bs[m].2.tn := by
  have hl : ((bs.take m).map (fun q => (q.1, f q.2.tn))).length = m := by rw [List.length_map, List.length_take]; omega
  have hl2 := congrArg List.length h
  rw [List.length_map, List.length_append, hl, List.length_map, List.length_drop] at hl2
  refine ⟨by omega, ?_⟩
  have := congrArg (fun l => l[m]?) h
  rw [List.getElem?_map, List.getElem?_eq_getElem (by omega), List.getElem?_append_right (by omega), hl, Nat.sub_self, List.drop_eq_getElem_cons hm, List.map_cons, List.getElem?_cons_zero, Option.map_some] at this
  have h2 := Option.some.inj this
  unfold btn at h2
  exact ⟨(Prod.mk.inj h2).1, (Prod.mk.inj h2).2⟩
theorem room_tn {nm : ByteArray} {N : Int} {k q : Kv} (h : k.tn = q.tn) : roomK nm N k = roomK nm N q := by
  have e2 : (k.x, k.l) = (q.x, q.l) := h
  unfold roomK
  rw [(Prod.mk.inj e2).1, (Prod.mk.inj e2).2]
theorem nodes_tn {k q : Kv} (h : k.tn = q.tn) : nodesF k.l = nodesF q.l := by
  have e2 : (k.x, k.l) = (q.x, q.l) := h
  rw [(Prod.mk.inj e2).2]

set_option maxRecDepth 100000 in
set_option maxHeartbeats 4000000 in
theorem bound_any (nm : ByteArray) (T : Tn) (ta : Option Addr) (tc : Nat) {N : Int} (hN : 0 ≤ N ∧ N ≤ 1048577) (Q : Nat) (w0 : World) (B : Nat) (v1 v2 : Value) (n : Nat) (es : List Kv) (bs : List Bk) (W : World) (hS : Sv w0 B v1 v2 n es bs W) (hQ : Box W Q 105 (ptC nm T ta tc N)) (hTT : TmO (S0 w0.heap.size) W T.1 ta tc T.2) (hn : bs.length ≤ 1073741824) (hM : ∀ b ∈ bs, nodesF b.2.l ≤ 1048576) :
    Calls Tryz.prog 56 #[.pointer (some ⟨B, 1, none⟩), .pointer (some ⟨Q, 0, none⟩)] W fun e W' => e = .returned (.bool (bs.all fun b => roomK nm N b.2)) ∧ Below w0.heap.size w0 W' ∧ ((bs.all fun b => roomK nm N b.2) = true → Fr (fun q => v2.ownBlock = some q) W W' ∧ ∃ bs' : List Bk, bs'.map btn = bs.map (fun b => (b.1, w1T nm T b.2.tn)) ∧ Sv w0 B v1 v2 n es bs' W') := by
  obtain ⟨p1, cap1, rfl, hcap, _, _⟩ := own_any hS.r2
  have HS := hid hS; have HQ := hid hQ; have HTT := hid hTT; have HM := hid hM
  have b0 := hS.box.c 1
  obtain ⟨nb, hnb⟩ : ∃ nb, bs.length = nb := ⟨_, rfl⟩
  rw [hnb] at hn HS b0 hcap ⊢
  have HNB := hid hnb
  clear hS hQ hTT hM hnb
  go_enter Tryz.func56, Tryz.ntmps56
  go_wp2_with fail
  go_loopw [11] (fun iv wr => ∃ (j : Nat) (bs' : List Bk), j ≤ nb ∧ iv = .int .i64 j ∧ bs'.length = nb ∧ Sv w0 B v1 (.slice p1 nb cap1) n es bs' wr ∧ Fr (fun q => (Value.slice p1 nb cap1).ownBlock = some q) W wr ∧ bs'.map btn = (bs.take j).map (fun b => (b.1, w1T nm T b.2.tn)) ++ (bs.drop j).map btn ∧ ((bs.take j).all fun b => roomK nm N b.2) = true) (fun iv _ => nb - (intOf iv).toNat)
  case atStart => exact ⟨0, bs, Nat.zero_le _, rfl, HNB.out, HS.out, Fr.refl _ _, by simp, rfl⟩
  case round =>
    obtain ⟨j, bs', hj, rfl, hnb', hs, hfr, hmap, hall⟩ := hrel
    have HS2 := hid hs; have HFR := hid hfr; have HMAP := hid hmap; have HALL := hid hall; have HNB2 := hid hnb'
    by_cases hlt : j < nb
    · obtain ⟨g, rfl⟩ : ∃ g, p1 = some ⟨g, 0, none⟩ := by
        obtain ⟨g, cap, e, _⟩ := own_slice hs.r2 (by omega)
        cases e
        exact ⟨g, rfl⟩
      have hm0 : j < bs.length := by have := HNB.out; omega
      obtain ⟨hm0', ev, e0⟩ := bmap_at hm0 hmap
      have hQ1 : Box wr Q 105 (ptC nm T ta tc N) := (hfr.same Q HQ.out.lt (fun h => row_box HS.out.r2 HQ.out (by decide) h)).trans HQ.out
      have hT1 : TmO (S0 w0.heap.size) wr T.1 ta tc T.2 := tmO_fr HTT.out hfr (fun b o hb ho => by
        have hb' : some g = some b := hb
        cases hb'
        obtain ⟨h1, cur, h2⟩ := owns_cells HS.out.r2 (g := g) rfl
        rw [h2] at ho
        cases ho
        exact S0_not (by have := HS.out.hB; omega) (by decide))
      have b0' := hs.box.c 1
      have hr2 := hs.r2
      rw [hnb'] at hr2
      obtain ⟨c0, c1, c2, c3⟩ := owns_cellb hr2 hm0'
      have hfz := owns_froz hr2
      cases hr0 : roomK nm N bs[j].2
      case false =>
        have HC := hid (putIn_no nm T ta tc hN Q g (j * 4 + 1) bs'[j].2 wr hQ1 (tmO_tm (hs.tb _ (List.getElem_mem hm0'))) c1 c2 c3 ((room_tn e0).trans hr0))
        have HA := hid (all_no (f := fun b : Bk => roomK nm N b.2) hm0 hr0)
        clear hs hfr hmap hall hQ1 hT1 e0 hr2 c0 c1 c2 c3 hfz hnb'
        go_wp2_with (go_at_call 77; refine HC.out.mono ?_; rintro e w3 ⟨rfl, hb3⟩; have HB3 := hid hb3; clear hb3)
        go_ret
        refine ⟨by rw [HA.out] <;> rfl, HS2.out.low.trans (HB3.out.mono HS2.out.low.size), fun h => by rw [HA.out] at h; cases h⟩
      case true =>
        have HC := hid (putIn_yes (S0 w0.heap.size) nm T ta tc hN Q g (j * 4 + 1) bs'[j].2 wr hQ1 (sv_seen _ wr) (hs.tb _ (List.getElem_mem hm0')) hT1 (by rw [nodes_tn e0]; exact HM.out _ (List.getElem_mem hm0)) c1 c2 c3 hfz ((room_tn e0).trans hr0))
        have HE0 := hid e0; have HEV := hid ev; have HR0 := hid hr0
        clear hs hfr hmap hall hQ1 hT1 e0 ev hr0 hr2 c0 c1 c2 c3 hfz hnb'
        go_wp2_with (go_at_call 77; refine HC.out.mono ?_; rintro e w3 ⟨rfl, hp3⟩; have HP3 := hid hp3; clear hp3)
        obtain ⟨k', hk', hs3, hf3⟩ := HS2.out.bind HNB2.out.symm hm0' HP3.out
        have hmp2 := bmap_set hm0 hm0' HMAP.out HEV.out (k := k') (hk'.trans (congrArg (w1T nm T) HE0.out))
        have hne := all_next (f := fun b : Bk => roomK nm N b.2) hm0 HALL.out HR0.out
        have hfr2 : Fr (fun q => (Value.slice (some ⟨g, 0, none⟩) nb cap1).ownBlock = some q) W w3 := HFR.out.trans (hf3.mono (fun q hq => by rw [hq]; rfl))
        have HNE2 := hid hne; have HMP2 := hid hmp2; have HFR2 := hid hfr2; have HS3 := hid hs3
        clear hne hmp2 hfr2 hs3 hf3 hk'
        go_roundw
        case rel => exact ⟨j + 1, _, by omega, by go_num, by rw [List.length_set]; exact HNB2.out, HS3.out, HFR2.out, HMP2.out, HNE2.out⟩
        case measure => simp [intOf]; omega
    · have e1 : j = nb := by omega
      subst e1
      have hel := HNB.out
      rw [← hel, List.take_length] at hmap hall
      rw [List.drop_length, List.map_nil, List.append_nil] at hmap
      have HA := hid hall; have HMP := hid hmap
      clear hs hfr hmap hall hel hnb'
      go_wp2_with fail
      go_ret
      exact ⟨by rw [HA.out] <;> rfl, HS2.out.low, fun _ => ⟨HFR.out, bs', HMP.out, HS2.out⟩⟩
end Go.Proofs.YtfnfbljijkjkjaaGreat
