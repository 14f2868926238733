/- What the document's Next answers. -/
import Derived.Test.YtlbmamkkbpjafaaBInts
namespace Go.Proofs.Ytlbmamkkbpjafaa
open Go.RowKit Go.Deep

set_option maxRecDepth 100000 in
theorem Try.info3 : (Try.prog.info? 3).map (fun i => (i.zero, i.size, i.bytes)) = some (some (.int .i64 0), 1, 8) := by kernel_rfl
theorem heap_set_cells {w : World} {B i : Nat} {cs : Array Value} {t : TypeId} {fr : Nat × Nat} (v : Value) (h : w.heap[B]? = some (.cells cs t fr)) : (w.setCell ⟨B, i, none⟩ v).heap[B]? = some (.cells (cs.setIfInBounds i v) t fr) := by
  obtain ⟨hlt, hk⟩ := Array.getElem?_eq_some_iff.1 h
  show (w.heap.modify B _)[B]? = _
  rw [Array.getElem?_eq_getElem (by rw [Array.size_modify]; exact hlt), Array.getElem_modify_self, hk]
  rfl
theorem owns_set {w : World} {base e size g n cap : Nat} {xs : List Value} (h : w.ownsRow base e size (.slice (some ⟨g, 0, none⟩) n cap) n xs) (j : Nat) (v : Value) :
    (w.setCell ⟨g, j, none⟩ v).ownsRow base e size (.slice (some ⟨g, 0, none⟩) n cap) n (xs.set j v) := by
  obtain ⟨hl, h⟩ := h
  refine ⟨by simpa using hl, ?_⟩
  rcases h with ⟨hv, _⟩ | ⟨g', cap', cur, hv, hb, hg, hnc, hcm, hsz, hcur⟩
  · cases hv
  · simp only [Value.slice.injEq, Option.some.injEq, Addr.mk.injEq, and_true, true_and] at hv
    obtain ⟨rfl, rfl⟩ := hv
    refine .inr ⟨g, cap, _, rfl, hb, heap_set_cells v hg, hnc, hcm, by simpa using hsz, ?_⟩
    rw [← hcur, Array.toList_setIfInBounds, List.take_set]
theorem owns_frozen {w : World} {base e size g n cap : Nat} {xs : List Value} (h : w.ownsRow base e size (.slice (some ⟨g, 0, none⟩) n cap) n xs) (j : Nat) : w.frozen? ⟨g, j, none⟩ = false := by
  rcases h.2 with ⟨hv, _⟩ | ⟨g', cap', cur, hv, hb, hg, _⟩
  · cases hv
  · simp only [Value.slice.injEq, Option.some.injEq, Addr.mk.injEq, and_true, true_and] at hv
    obtain ⟨rfl, rfl⟩ := hv
    simp [World.frozen?, hg]
theorem owns_base {w : World} {base base' e size n : Nat} {v : Value} {xs : List Value} (h : w.ownsRow base e size v n xs) (hb : base' ≤ base) : w.ownsRow base' e size v n xs := by
  obtain ⟨hl, h⟩ := h
  refine ⟨hl, ?_⟩
  rcases h with h | ⟨g, cap, cur, h1, h2, h3⟩
  · exact .inl h
  · exact .inr ⟨g, cap, cur, h1, Nat.le_trans hb h2, h3⟩
/-- A row of counts, by its values alone. -/
theorem crow_set {W : World} {base g d n : Nat} {cs : List Int} (h : W.ownsRow base 3 1 (.slice (some ⟨g, 0, none⟩) n d) n (cAll cs)) (i : Nat) (x : Int) : (W.setCell ⟨g, i, none⟩ (.int .i64 x)).ownsRow base 3 1 (.slice (some ⟨g, 0, none⟩) n d) n (cAll (cs.set i x)) := by
  have := owns_set h i (.int .i64 x)
  unfold cAll at this ⊢
  rwa [List.map_set]
/-- The counts behind these, the wheels from k on being at their ends. -/
def riseAt (l : List It) (cs : List Int) : Nat → List Int × Bool
  | 0 => (List.replicate cs.length 0, false)
  | k + 1 => match l[k]?, cs[k]? with
    | some y, some c => if c < y.2 then (cs.take k ++ (c + 1) :: List.replicate (cs.length - (k + 1)) 0, true) else riseAt l cs k
    | _, _ => riseAt l cs k
def riseP (l : List It) (cs : List Int) : List Int × Bool := riseAt l cs cs.length
/-- The counts under way: those below k as they were, the others 0. -/
def wayC (cs : List Int) (k : Nat) : List Int := cs.take k ++ List.replicate (cs.length - k) 0
theorem wayC_len {cs : List Int} {k : Nat} (hk : k ≤ cs.length) : (wayC cs k).length = cs.length := by simp [wayC]; omega
theorem wayC_all (cs : List Int) : wayC cs cs.length = cs := by simp [wayC]
theorem wayC_none (cs : List Int) : wayC cs 0 = List.replicate cs.length 0 := by simp [wayC]
theorem wayC_at {cs : List Int} {k : Nat} (hk : k < cs.length) : (wayC cs (k + 1))[k]? = some cs[k] := by
  unfold wayC
  rw [List.getElem?_append_left (by simp; omega), List.getElem?_take_of_lt (by omega), List.getElem?_eq_getElem hk]
theorem wayC_set {cs : List Int} {k : Nat} (hk : k < cs.length) (x : Int) : (wayC cs (k + 1)).set k x = cs.take k ++ x :: List.replicate (cs.length - (k + 1)) 0 := by
  unfold wayC
  rw [List.take_succ_eq_append_getElem hk, List.append_assoc, List.set_append_right _ _ (by simp; omega), List.length_take, Nat.min_eq_left (Nat.le_of_lt hk), Nat.sub_self]
  rfl
theorem wayC_down {cs : List Int} {k : Nat} (hk : k < cs.length) : (wayC cs (k + 1)).set k 0 = wayC cs k := by
  rw [wayC_set hk]
  unfold wayC
  rw [show cs.length - k = cs.length - (k + 1) + 1 by omega, List.replicate_succ]
theorem riseAt_succ {l : List It} {cs : List Int} {k : Nat} (hl : k < l.length) (hc : k < cs.length) : riseAt l cs (k + 1) = if cs[k] < l[k].2 then (cs.take k ++ (cs[k] + 1) :: List.replicate (cs.length - (k + 1)) 0, true) else riseAt l cs k := by
  show (match l[k]?, cs[k]? with | some y, some c => if c < y.2 then (cs.take k ++ (c + 1) :: List.replicate (cs.length - (k + 1)) 0, true) else riseAt l cs k | _, _ => riseAt l cs k) = _
  rw [List.getElem?_eq_getElem hl, List.getElem?_eq_getElem hc]
theorem riseAt_len (l : List It) (cs : List Int) : ∀ k, k ≤ cs.length → (riseAt l cs k).1.length = cs.length
  | 0, _ => by simp [riseAt]
  | k + 1, hk => by
    have ih := riseAt_len l cs k (by omega)
    unfold riseAt
    split
    · split
      · simp; omega
      · exact ih
    · exact ih
theorem src_c {W : World} {base : Nat} {q : Option Addr} {d : Nat} {cs : List Int} (h : CRow W base q d cs) : (q = none ∧ cs.length = 0 ∧ d = 0 ∧ cAll cs = []) ∨ ∃ ad, q = some ad ∧ (cAll cs).length = cs.length * 1 ∧ ∀ j u, (cAll cs)[j]? = some u → W.cell? (ad.add j) = some u := by
  rcases h.2 with ⟨h2, h3⟩ | ⟨g, cap, cur, h1, _⟩
  · injection h2 with e1 e2 e3
    exact .inl ⟨e1, h3, e3, by rw [List.length_eq_zero_iff.1 h3]; rfl⟩
  · obtain ⟨e1, _, e3⟩ := Value.slice.inj h1
    subst e1
    exact .inr ⟨_, rfl, by simp [cAll], fun j u hj => h.cells (g := g) rfl j u hj⟩
theorem run_appC (ty base : Nat) (v : Value) (n : Nat) (xs : List Value) (w : World) (hown : w.ownsRow base 3 1 v n xs) (px : Option Addr) (m cx : Nat) (news : List Value)
    (hsrc : (px = none ∧ m = 0 ∧ cx = 0 ∧ news = []) ∨ ∃ ad, px = some ad ∧ news.length = m * 1 ∧ ∀ j u, news[j]? = some u → w.cell? (ad.add j) = some u) (h1 : ∀ u ∈ news, u.oneCell' = true) (hb : n + m ≤ 2097153) (hbase : base ≤ w.heap.size) :
    ∃ p' c' w', (Builtin.append_ #[50, 50] ty #[v, .slice px m cx]).run Try.prog w = .ok (.slice p' (n + m) c') w' ∧ w'.ownsRow base 3 1 (.slice p' (n + m) c') (n + m) (xs ++ news) ∧ w.grownBy w' v.ownBlock := by
  obtain ⟨i0, hi0, hz0, hz1, hz2⟩ := info_parts Try.info3
  have form : ∀ {W : World} {v' : Value} {k : Nat} {ys : List Value}, W.ownsRow base 3 1 v' k ys → ∃ p' c', v' = .slice p' k c' := by
    intro W v' k ys h
    rcases h.2 with ⟨h2, h3⟩ | ⟨g, c, _, h2, _⟩
    · exact ⟨none, 0, by rw [h2, h3]⟩
    · exact ⟨_, _, h2⟩
  rcases hsrc with ⟨rfl, rfl, rfl, rfl⟩ | ⟨ad, rfl, hl, hnews⟩
  · obtain ⟨p', c', rfl⟩ := form hown
    refine ⟨p', c', w, run_append_owned_none (P := Try.prog) (w := w) base 50 ty 3 i0 1 Try.underlying50 hi0 _ n xs hown, ?_, World.grownBy.refl _ _⟩
    rw [List.append_nil]
    exact hown
  · obtain ⟨v', w', hr, h2, h3, _, h5⟩ := run_append_own_at (P := Try.prog) w base 50 ty 3 i0 _ 1 8 Try.underlying50 hi0 hz0 hz1 hz2 rfl (by decide) v n xs hown ad m cx news hl hnews h1 (by unfold maxLen; omega) (by omega) hbase
    obtain ⟨p', c', rfl⟩ := form h2
    exact ⟨p', c', w', hr, h2, h3⟩
/-- What Next answers. -/
def NextEnd (w : World) (r : List Int × Bool) (e : Ending) (w' : World) : Prop := ∃ q d, e = .returned (.tuple #[.slice q (if r.2 then r.1.length else 0) d, .bool r.2]) ∧ (r.2 = true → CRow w' w.heap.size q d r.1) ∧ Below w.heap.size w w'
set_option maxRecDepth 100000 in
set_option maxHeartbeats 8000000 in
theorem rnext_any (p : Option Addr) (c : Nat) (l : List It) (q : Option Addr) (d base : Nat) (cs : List Int) (w : World) (hO : w.ownsRow 0 60 3 (.slice p l.length c) l.length (itAll l)) (hQ : CRow w base q d cs) (hc : cs.length = l.length) (hln : l.length ≤ 1048576) (hcb : ∀ x ∈ cs, 0 ≤ x ∧ x ≤ 1000000000000) :
    Calls Try.prog 29 #[.agg #[.slice p l.length c], .slice q cs.length d] w (NextEnd w (riseP l cs)) := by
  have b1 := alloc_below0 w (.cells #[.slice p l.length c] 27)
  have n1 := World.alloc_heap_new w (.cells #[.slice p l.length c] 27)
  generalize hV1 : w.alloc (.cells #[.slice p l.length c] 27) = V1 at b1 n1
  have hs1 : V1.heap.size = w.heap.size + 1 := by rw [← hV1, World.size_alloc]
  have b2 := alloc_below0 V1 (.cells #[] 3)
  have hE : (V1.alloc (.cells #[] 3)).ownsRow V1.heap.size 3 1 (.slice (some ⟨V1.heap.size, 0, none⟩) 0 0) 0 [] := ⟨rfl, .inr ⟨V1.heap.size, 0, #[], rfl, Nat.le_refl _, World.alloc_heap_new V1 _, Nat.le_refl _, Nat.zero_le _, rfl, rfl⟩⟩
  obtain ⟨p1, c1, w1, hr1, hA1, hG1⟩ := run_appC 50 V1.heap.size _ 0 [] _ hE q cs.length d (cAll cs) (src_c (crow_below (crow_below hQ b1) b2)) (fun u hu => by obtain ⟨x, _, rfl⟩ := List.mem_map.1 hu; rfl) (by omega) b2.size
  have hb1 : Below V1.heap.size V1 w1 := b2.trans ((fr_grown hG1).below (fun k hk => by have h7 : some V1.heap.size = some k := hk; have := Option.some.inj h7; omega) b2.size)
  rw [Nat.zero_add] at hr1 hA1
  rw [List.nil_append] at hA1
  have HA1 := hid hA1; have HB1 := hid hb1; have HN1 := hid n1; have HB0 := hid b1
  have HO := hid hO; have HCL := hid hc; have HS1 := hid hs1; have HCB := hid hcb
  clear hE hG1 b2 hA1 hb1 n1 b1 hO hQ hcb
  obtain ⟨n, hN⟩ : ∃ n, cs.length = n := ⟨_, rfl⟩
  have HNN := hid hN
  rw [hN] at hr1 hc ⊢
  have HNL := hid hc
  have hnz : n ≤ 1048576 := by omega
  have hmix : Try.prog.follows .mixedOrders = true := by kernel_rfl
  clear hN hc
  subst hV1
  simp only [World.size_alloc] at hr1
  go_enter Try.func29, Try.ntmps29
  go_wp2_with (first
    | (at_builtin; refine Lib.wpList_append_run _ rfl _ _ _ _ rfl _ _ rfl rfl _ _ hr1 ?_; clear hr1)
    | fail)
  clear hs1
  generalize w.alloc (.cells #[.slice p l.length c] 27) = V1 at HA1 HB1 HN1 HB0 HS1
  generalize hY1 : w.heap.size = Y1 at HN1 HS1 ⊢
  have HYS := hid hY1
  clear hY1
  go_loopw [7] (fun iv wr => ∃ k : Nat, iv = .int .i64 ((k : Int) - 1) ∧ k ≤ n ∧ riseP l cs = riseAt l cs k ∧ wr.ownsRow V1.heap.size 3 1 (.slice p1 n c1) n (cAll (wayC cs k)) ∧ Below V1.heap.size V1 wr) (fun iv _ => (intOf iv + 1).toNat)
  case atStart =>
    have hln2 : (n : Int) ≤ 1048576 := by have := HNL.out; omega
    refine ⟨n, by first | rfl | go_num, Nat.le_refl _, ?_, ?_, HB1.out⟩
    · unfold riseP; rw [HNN.out]
    · have h := HA1.out
      rw [HNN.out] at h
      rw [← HNN.out, wayC_all, HNN.out]
      exact h
  case round =>
    obtain ⟨k, rfl, hk, hrs, hrw, hbl⟩ := hrel
    have HRS := hid hrs; have HRW := hid hrw; have HBl := hid hbl
    have hn1 : wr.heap[Y1]? = some (.cells #[.slice p l.length c] 27 (0, 0)) := (hbl.block Y1 (by have := HS1.out; omega)).trans HN1.out
    have y1 : wr.cell? ⟨Y1, 0, none⟩ = some (.slice p l.length c) := cell_box hn1 rfl
    have hWb : Below w.heap.size w wr := HB0.out.trans (hbl.mono (by have := HS1.out; have := HYS.out; omega))
    have HWB := hid hWb
    clear hrs hrw hbl hn1 hWb
    match k with
    | 0 =>
      have hz : riseP l cs = (List.replicate cs.length 0, false) := HRS.out
      go_wp2_with fail
      go_ret2
      refine ⟨none, 0, ?_, ?_, HWB.out⟩
      · rw [hz]; rfl
      · rw [hz]; intro h; cases h
    | k + 1 =>
      have hkl : k < l.length := by have := HNL.out; omega
      have hkc : k < cs.length := by have := HNN.out; omega
      have hsu := HRS.out
      rw [riseAt_succ hkl hkc] at hsu
      obtain ⟨b1, o1, hq1, e1, e2, e3⟩ := (its_of60 (owns60_below HO.out HWB.out)).cells k hkl
      have hrl : wr.ownsRow V1.heap.size 3 1 (.slice p1 (wayC cs (k + 1)).length c1) (wayC cs (k + 1)).length (cAll (wayC cs (k + 1))) := by
        rw [wayC_len (by omega), HNN.out]; exact HRW.out
      obtain ⟨g, hg1, hgb, hgl, ec⟩ := crow_cell hrl k (by rw [wayC_len (by omega)]; exact hkc)
      have hwa := wayC_at hkc
      rw [List.getElem?_eq_getElem (by rw [wayC_len (by omega)]; exact hkc)] at hwa
      rw [Option.some.inj hwa] at ec
      subst hq1 hg1
      have hxb := HCB.out cs[k] (List.getElem_mem hkc)
      have efz := owns_frozen HRW.out k
      have hset1 := wayC_set hkc (cs[k] + 1)
      have hset0 := wayC_down hkc
      generalize cs[k] = x at hsu ec hxb hset1
      generalize l[k].2 = yn at e3 hsu
      have HSU := hid hsu; have HS1' := hid hset1; have HS0 := hid hset0
      have hkz : (k : Int) < (n : Int) := by omega
      have hkz2 : (k : Int) < (l.length : Int) := by omega
      have hkk : ((k + 1 : Nat) : Int) - 1 = (k : Int) := by omega
      rw [hkk]
      clear hsu hset1 hset0 hwa hrl e1 e2
      by_cases hlt : x < yn
      · rw [if_pos hlt] at HSU
        go_wp2_with fail
        go_big_region_o
        go_wp2_with fail
        go_ret2
        have hlen : (riseP l cs).1.length = n := by unfold riseP; rw [riseAt_len _ _ _ (Nat.le_refl _)]; exact HNN.out
        have hb : (riseP l cs).2 = true := by rw [HSU.out]
        refine ⟨some ⟨g, 0, none⟩, c1, ?_, fun _ => ?_, ?_⟩
        · rw [hb, if_pos rfl, hlen]; rfl
        · have h := crow_set HRW.out k (x + 1)
          rw [HS1'.out] at h
          show World.ownsRow _ _ 3 1 (.slice _ (riseP l cs).1.length c1) (riseP l cs).1.length (cAll (riseP l cs).1)
          rw [hlen, HSU.out]
          exact owns_base h (by have := HS1.out; have := HYS.out; omega)
        · exact (HWB.out.setCell (p := ⟨g, k, none⟩) (show w.heap.size ≤ g by have := HS1.out; have := HYS.out; omega) _).drew
      · rw [if_neg hlt] at HSU
        go_wp2_with fail
        go_big_region_o
        go_wp2_with fail
        go_roundw
        case rel =>
          refine ⟨k, rfl, by omega, HSU.out, ?_, (HBl.out.setCell (p := ⟨g, k, none⟩) hgb _).drew⟩
          have h := crow_set HRW.out k 0
          rw [HS0.out] at h
          exact h
        case measure => simp [intOf]
end Go.Proofs.Ytlbmamkkbpjafaa
