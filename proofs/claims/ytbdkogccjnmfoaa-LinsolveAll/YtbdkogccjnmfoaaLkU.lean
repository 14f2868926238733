/- spoilAll; the document's Basis. -/
import Derived.Test.YtbdkogccjnmfoaaLkT
import Derived.Test.YtbdkogccjnmfoaaLkS
namespace Go.Proofs.Ytbdkogccjnmfoaa
open Go.RowKit Go.Shelf

set_option maxRecDepth 100000 in
set_option maxHeartbeats 2000000 in
theorem spoil2_any (g n cap : Nat) (w : World) (hg : ∃ cur, w.heap[g]? = some (.cells cur 3 (0, 0)) ∧ cur.size = cap) (hcm : cap ≤ maxLen) :
    Calls Try.prog 22 #[.slice (some ⟨g, 0, none⟩) n cap] w fun e w' => (∃ u, e = .returned u) ∧ Fr (fun q => q = g) w w' ∧ ∃ cur, w'.heap[g]? = some (.cells cur 3 (0, 0)) ∧ cur.size = cap := by
  have hmax : maxLen = 9223372036854775807 := rfl
  have HG := hid hg
  clear hg
  go_enter Try.func22, Try.ntmps22
  go_wp2_with fail
  go_loopw [2] (fun iv wr => ∃ i : Nat, i ≤ cap ∧ iv = .int .i64 i ∧ Fr (fun q => q = g) w wr ∧ ∃ cur, wr.heap[g]? = some (.cells cur 3 (0, 0)) ∧ cur.size = cap) (fun iv _ => cap - (intOf iv).toNat)
  case atStart => exact ⟨0, Nat.zero_le _, rfl, Fr.refl _ _, HG.out⟩
  case round =>
    obtain ⟨i, hi, rfl, hf, cu, h1, h2⟩ := hrel
    by_cases hlt : i < cap
    · have x1 : wr.cell? ⟨g, i, none⟩ = some (cu[i]'(by omega)) := cell_box h1 (by simp [h2, hlt])
      have f1 : wr.frozen? ⟨g, i, none⟩ = false := free_box h1
      have HS := hid (And.intro (hf.trans (fr_set wr g i (.int .i64 (-7)))) (block_set (k := i) h1 (.int .i64 (-7))))
      have HC : Hid ((cu.setIfInBounds i (.int .i64 (-7))).size = cap) := hid (by simp [h2])
      generalize cu[i]'(by omega) = old at x1
      clear hf h1 h2
      go_wp2_with fail
      go_roundw
      case rel => exact ⟨i + 1, by omega, by go_num, HS.out.1, _, HS.out.2, HC.out⟩
      case measure => simp [intOf]; omega
    · have HF := hid hf
      have HE : Hid (∃ cur, wr.heap[g]? = some (.cells cur 3 (0, 0)) ∧ cur.size = cap) := hid ⟨cu, h1, h2⟩
      clear hf h1 h2
      go_wp2_with fail
      go_end0
      exact ⟨⟨_, rfl⟩, HF.out, HE.out⟩
set_option maxRecDepth 100000 in
theorem spoil_none (w : World) : Calls Try.prog 22 #[.slice none 0 0] w fun e w' => (∃ u, e = .returned u) ∧ w' = w := by
  go_enter Try.func22, Try.ntmps22
  go_wp2_with fail
  go_loopw [2] (fun iv wr => iv = .int .i64 0 ∧ wr = w) (fun _ _ => 0)
  case atStart => exact ⟨rfl, rfl⟩
  case round =>
    obtain ⟨rfl, rfl⟩ := hrel
    go_wp2_with fail
    go_end0
    exact ⟨⟨_, rfl⟩, rfl⟩
set_option maxRecDepth 100000 in
theorem spoilAll_none (w : World) : Calls Try.prog 18 #[.slice none 0 0] w fun e w' => (∃ u, e = .returned u) ∧ w' = w := by
  go_enter Try.func18, Try.ntmps18
  go_wp2_with fail
  go_loopw [2] (fun iv wr => iv = .int .i64 0 ∧ wr = w) (fun _ _ => 0)
  case atStart => exact ⟨rfl, rfl⟩
  case round =>
    obtain ⟨rfl, rfl⟩ := hrel
    go_wp2_with fail
    go_end0
    exact ⟨⟨_, rfl⟩, rfl⟩
set_option maxRecDepth 100000 in
set_option maxHeartbeats 4000000 in
theorem spoilAll_some (g n c : Nat) (vs : List Vc) (w : World) (hn : vs.length = n) (hnc : n ≤ c) (hcm : c ≤ maxLen) (hg : w.heap[g]? = some (.cells (vs.map vcV ++ List.replicate (c - n) (Value.slice none 0 0)).toArray 27 (0, 0))) (hv : ∀ x ∈ vs, VcAt w x) :
    Calls Try.prog 18 #[.slice (some ⟨g, 0, none⟩) n c] w fun e w' => (∃ u, e = .returned u) ∧ Fr (fun k => k = g ∨ ∃ x ∈ vs, k = x.b) w w' := by
  have hmax : maxLen = 9223372036854775807 := rfl
  have HN := hid hn
  have HST : Hid (∃ cu : Array Value, w.heap[g]? = some (.cells cu 27 (0, 0)) ∧ cu.size = c ∧ ∀ j, 0 ≤ j → j < c → cu[j]? = some (if h : j < vs.length then vcV vs[j] else .slice none 0 0)) := hid ⟨_, hg, by simp; omega, fun j _ hj => by
    rw [List.getElem?_toArray]
    by_cases h : j < vs.length
    · rw [List.getElem?_append_left (by simpa using h), List.getElem?_map, List.getElem?_eq_getElem h, dif_pos h]; rfl
    · rw [List.getElem?_append_right (by simp; omega), List.getElem?_replicate, if_pos (by simp; omega), dif_neg h]⟩
  have HSV : Hid (∀ x ∈ vs, (∃ cur, w.heap[x.b]? = some (.cells cur 3 (0, 0)) ∧ cur.size = x.c) ∧ x.c ≤ maxLen) := hid (fun x hx => by
    obtain ⟨cur, h1, _, h3, h4⟩ := (hv x hx).blk
    exact ⟨⟨cur, h1, h3⟩, h4⟩)
  clear hg hv hn
  have hi0 : (0 : Int) ≤ (c : Int) := by omega
  have hi1 : (c : Int) ≤ (c : Int) := by omega
  go_enter Try.func18, Try.ntmps18
  go_wp2_with fail
  go_loopw [2] (fun iv wr => ∃ i : Nat, i ≤ c ∧ iv = .int .i64 i ∧ Fr (fun k => k = g ∨ ∃ x ∈ vs, k = x.b) w wr ∧ (∃ cu : Array Value, wr.heap[g]? = some (.cells cu 27 (0, 0)) ∧ cu.size = c ∧ ∀ j, i ≤ j → j < c → cu[j]? = some (if h : j < vs.length then vcV vs[j] else .slice none 0 0)) ∧ ∀ x ∈ vs, (∃ cur, wr.heap[x.b]? = some (.cells cur 3 (0, 0)) ∧ cur.size = x.c) ∧ x.c ≤ maxLen) (fun iv _ => c - (intOf iv).toNat)
  case atStart => exact ⟨0, Nat.zero_le _, rfl, Fr.refl _ _, HST.out, HSV.out⟩
  case round =>
    obtain ⟨i, hi, rfl, hf, ⟨cu, h1, h2, h3⟩, hvv⟩ := hrel
    rename World => wr
    clear HST HSV
    by_cases hlt : i < c
    · have hci := h3 i (Nat.le_refl _) hlt
      have hstore : ∀ W : World, W.heap[g]? = wr.heap[g]? → W.cell? ⟨g, i, none⟩ = wr.cell? ⟨g, i, none⟩ ∧ W.frozen? ⟨g, i, none⟩ = false ∧ ∃ cu : Array Value, (W.setCell ⟨g, i, none⟩ (.slice none 0 0)).heap[g]? = some (.cells cu 27 (0, 0)) ∧ cu.size = c ∧ ∀ j, i + 1 ≤ j → j < c → cu[j]? = some (if h : j < vs.length then vcV vs[j] else .slice none 0 0) := fun W hW => by
        have hW1 := hW.trans h1
        refine ⟨by unfold World.cell?; simp only [hW], free_box hW1, _, block_set (k := i) hW1 _, by rw [Array.size_setIfInBounds]; exact h2, fun j hj hjc => ?_⟩
        rw [Array.getElem?_setIfInBounds, if_neg (by omega)]
        exact h3 j (by omega) hjc
      have HSTO := hid hstore
      have HF := hid hf; have HVV := hid hvv; have H1 := hid h1
      by_cases hiv : i < vs.length
      · rw [dif_pos hiv] at hci
        have hxm := List.getElem_mem hiv
        obtain ⟨x, hx⟩ : ∃ x, vs[i] = x := ⟨_, rfl⟩
        rw [hx] at hci hxm
        have c1 : wr.cell? ⟨g, i, none⟩ = some (.slice (some ⟨x.b, 0, none⟩) x.l.length x.c) := cell_box h1 hci
        have hSP := spoil2_any x.b x.l.length x.c wr (hvv x hxm).1 (hvv x hxm).2
        have hne : x.b ≠ g := by
          obtain ⟨⟨cur, k1, _⟩, _⟩ := hvv x hxm
          exact ne_type k1 h1 (by decide)
        have HSP := hid hSP; have HXM := hid hxm; have HNE := hid hne
        have HC1 := hid c1
        clear hci hxm hx hf h1 h2 h3 hvv hstore hSP hne
        go_wp2_with fail
        refine HSP.out.mono ?_
        rintro e w2 ⟨⟨u, rfl⟩, hf2, cur2, k2, k3⟩
        have hgs : w2.heap[g]? = wr.heap[g]? := hf2.same g (Array.getElem?_eq_some_iff.1 H1.out).1 (fun e => HNE.out e.symm)
        obtain ⟨s1, s2, s3⟩ := HSTO.out w2 hgs
        rw [HC1.out] at s1
        have HREL : Hid (Fr (fun k => k = g ∨ ∃ x ∈ vs, k = x.b) w (w2.setCell ⟨g, i, none⟩ (.slice none 0 0)) ∧ (∃ cu : Array Value, (w2.setCell ⟨g, i, none⟩ (.slice none 0 0)).heap[g]? = some (.cells cu 27 (0, 0)) ∧ cu.size = c ∧ ∀ j, i + 1 ≤ j → j < c → cu[j]? = some (if h : j < vs.length then vcV vs[j] else .slice none 0 0)) ∧ ∀ x ∈ vs, (∃ cur, (w2.setCell ⟨g, i, none⟩ (.slice none 0 0)).heap[x.b]? = some (.cells cur 3 (0, 0)) ∧ cur.size = x.c) ∧ x.c ≤ maxLen) := hid ⟨(HF.out.trans (hf2.mono (fun q hq => .inr ⟨x, HXM.out, hq⟩))).trans ((fr_set w2 g i _).mono (fun q hq => .inl hq)), s3, fun y hy => by
          obtain ⟨⟨cy, y1, y2⟩, y3⟩ := HVV.out y hy
          refine ⟨?_, y3⟩
          have hyg : y.b ≠ g := ne_type y1 H1.out (by decide)
          by_cases hyb : y.b = x.b
          · have hc2 : y.c = x.c := by
              obtain ⟨⟨cx, x1, x2⟩, _⟩ := HVV.out x HXM.out
              rw [hyb, x1] at y1
              injection y1 with y1
              injection y1 with y1 _ _
              rw [← y2, ← x2, y1]
            exact ⟨cur2, by rw [hyb]; exact (set_far HNE.out _).trans k2, by rw [hc2]; exact k3⟩
          · exact ⟨cy, (set_far hyg _).trans ((hf2.same _ (Array.getElem?_eq_some_iff.1 y1).1 hyb).trans y1), y2⟩⟩
        clear hf2 k2 k3 hgs s3 HSP c1
        go_wp2_with fail
        go_roundw
        case rel => exact ⟨i + 1, by omega, by go_num, HREL.out⟩
        case measure => simp [intOf]; omega
      · rw [dif_neg hiv] at hci
        have c1 : wr.cell? ⟨g, i, none⟩ = some (.slice none 0 0) := cell_box h1 hci
        have HSP := hid (spoil_none wr)
        obtain ⟨s1, s2, s3⟩ := hstore wr rfl
        have HREL : Hid (Fr (fun k => k = g ∨ ∃ x ∈ vs, k = x.b) w (wr.setCell ⟨g, i, none⟩ (.slice none 0 0)) ∧ (∃ cu : Array Value, (wr.setCell ⟨g, i, none⟩ (.slice none 0 0)).heap[g]? = some (.cells cu 27 (0, 0)) ∧ cu.size = c ∧ ∀ j, i + 1 ≤ j → j < c → cu[j]? = some (if h : j < vs.length then vcV vs[j] else .slice none 0 0)) ∧ ∀ x ∈ vs, (∃ cur, (wr.setCell ⟨g, i, none⟩ (.slice none 0 0)).heap[x.b]? = some (.cells cur 3 (0, 0)) ∧ cur.size = x.c) ∧ x.c ≤ maxLen) := hid ⟨hf.trans ((fr_set wr g i _).mono (fun q hq => .inl hq)), s3, fun y hy => by
          obtain ⟨⟨cy, y1, y2⟩, y3⟩ := hvv y hy
          exact ⟨⟨cy, (set_far (ne_type y1 h1 (by decide)) _).trans y1, y2⟩, y3⟩⟩
        clear hci hf h1 h2 h3 hvv hstore s1 s3
        go_wp2_with fail
        refine HSP.out.mono ?_
        rintro e w2 ⟨⟨u, rfl⟩, hw2⟩
        subst hw2
        clear HSP
        go_wp2_with fail
        go_roundw
        case rel => exact ⟨i + 1, by omega, by go_num, HREL.out⟩
        case measure => simp [intOf]; omega
    · have HF := hid hf
      clear hf h1 h2 h3 hvv
      go_wp2_with fail
      go_end0
      exact ⟨⟨_, rfl⟩, HF.out⟩
/-- What Basis answers, plainly. -/
def BasP (a b : List Int) (L : List (List Nat)) (E : Int) : Prop := (chkE a b ≠ 0 ∧ L = [] ∧ E = chkE a b) ∨ (chkE a b = 0 ∧ ∃ M, IsMin (pbOf a b) M ∧ ((16 < M.length ∧ L = [] ∧ E = 2) ∨ (M.length ≤ 16 ∧ L = M ∧ E = 0)))
theorem BasP.unique {a b : List Int} {L L' : List (List Nat)} {E E' : Int} (h : BasP a b L E) (k : BasP a b L' E') : L = L' ∧ E = E' := by
  rcases h with ⟨h0, rfl, rfl⟩ | ⟨h0, M, hM, h⟩
  · rcases k with ⟨_, rfl, rfl⟩ | ⟨k0, _⟩
    · exact ⟨rfl, rfl⟩
    · exact absurd k0 h0
  · rcases k with ⟨k0, _⟩ | ⟨_, M', hM', k⟩
    · exact absurd h0 k0
    · have e := hM.unique hM'
      subst e
      rcases h with ⟨h1, rfl, rfl⟩ | ⟨h1, rfl, rfl⟩ <;> rcases k with ⟨k1, rfl, rfl⟩ | ⟨k1, rfl, rfl⟩
      · exact ⟨rfl, rfl⟩
      · omega
      · omega
      · exact ⟨rfl, rfl⟩
theorem BasP.len {a b : List Int} {L : List (List Nat)} {E : Int} (h : BasP a b L E) : L.length ≤ 16 := by
  rcases h with ⟨_, rfl, _⟩ | ⟨_, M, _, (⟨_, rfl, _⟩ | ⟨h1, rfl, _⟩)⟩
  · simp
  · simp
  · exact h1
theorem basis_p (p : Option Addr) (c : Nat) (a : List Int) (q : Option Addr) (d : Nat) (b : List Int) (w : World) (hA : IntsAt w p a) (hB : IntsAt w q b) :
    Calls Try.prog 10 #[.slice p a.length c, .slice q b.length d] w fun e w' => Below w.heap.size w w' ∧ ∃ ql cl vs E, e = .returned (.tuple #[.slice ql (List.length (α := Vc) vs) cl, .int .i64 E]) ∧ XRowZ w' w.heap.size (.slice ql vs.length cl) vs ∧ (∀ x ∈ vs, w.heap.size ≤ x.b) ∧ BasP a b (vs.map Vc.l) E := by
  refine (basis_z p c a q d b w hA hB).mono ?_
  rintro e w' ⟨hb, (⟨h0, rfl⟩ | ⟨h0, vs, hm, (⟨h1, rfl⟩ | ⟨h1, v, rfl, hX, hf⟩)⟩)⟩
  · exact ⟨hb, none, 0, [], _, rfl, XRowZ.nil _ _, by simp, .inl ⟨h0, rfl, rfl⟩⟩
  · exact ⟨hb, none, 0, [], _, rfl, XRowZ.nil _ _, by simp, .inr ⟨h0, _, hm, .inl ⟨by simpa using h1, rfl, rfl⟩⟩⟩
  · obtain ⟨ql, cl, rfl⟩ := hX.form
    exact ⟨hb, ql, cl, vs, _, rfl, hX, hf, .inr ⟨h0, _, hm, .inr ⟨by simpa using h1, rfl, rfl⟩⟩⟩
set_option maxRecDepth 100000 in
set_option maxHeartbeats 2000000 in
theorem rbasis_p (p : Option Addr) (c : Nat) (a : List Int) (q : Option Addr) (d : Nat) (b : List Int) (w : World) (hA : IntsAt w p a) (hB : IntsAt w q b) :
    Calls Try.prog 17 #[.slice p a.length c, .slice q b.length d] w fun e w' => Below w.heap.size w w' ∧ ∃ ql cl vs E, e = .returned (.tuple #[.slice ql (List.length (α := Vc) vs) cl, .int .i64 E]) ∧ XRow w' w.heap.size (.slice ql vs.length cl) vs ∧ (∀ x ∈ vs, w.heap.size ≤ x.b) ∧ BasP a b (vs.map Vc.l) E := by
  have HRC := hid (rcheck_any p c a q d b w hA hB)
  have HAL := hid (rall_any p c a q d b w hA hB)
  clear hA hB
  by_cases h0 : chkE a b = 0
  · rw [h0] at HRC
    have H0 := hid h0
    clear h0
    go_enter Try.func17, Try.ntmps17
    go_wp2_with fail
    refine HRC.out.mono ?_
    rintro e w1 ⟨rfl, hw1⟩
    subst hw1
    rename World => w
    go_wp2_with fail
    refine HAL.out.mono ?_
    rintro e w2 ⟨hb2, (⟨h, _⟩ | ⟨_, vl, ms, rfl, hmin, hX, hge⟩)⟩
    · exact absurd H0.out h
    obtain ⟨ql, cl, hq⟩ := hX.form
    subst hq
    by_cases h16 : 16 < ms.length
    · have HE : Hid (BasP a b ([] : List (List Nat)) 2) := hid (.inr ⟨H0.out, _, hmin, .inl ⟨by simpa using h16, rfl, rfl⟩⟩)
      have HB2 := hid hb2
      clear hb2 hmin hX hge HAL HRC
      go_wp2_with fail
      go_ret2
      exact ⟨HB2.out, none, 0, [], 2, rfl, XRow.nil _ _, by simp, HE.out⟩
    · have HE : Hid (XRow w2 w.heap.size (.slice ql ms.length cl) ms ∧ (∀ x ∈ ms, w.heap.size ≤ x.b) ∧ BasP a b (ms.map Vc.l) 0) := hid ⟨hX, hge, .inr ⟨H0.out, _, hmin, .inr ⟨by simpa using h16, rfl, rfl⟩⟩⟩
      have HB2 := hid hb2
      clear hb2 hmin hX hge HAL HRC
      go_wp2_with fail
      go_ret2
      exact ⟨HB2.out, ql, cl, ms, 0, rfl, HE.out⟩
  · obtain ⟨z, hz⟩ : ∃ z, chkE a b = z := ⟨_, rfl⟩
    have hz0 : (z != 0) = true := by rw [hz] at h0; simpa using h0
    have HE : Hid (BasP a b ([] : List (List Nat)) z) := hid (.inl ⟨h0, rfl, hz.symm⟩)
    rw [hz] at HRC
    clear h0 hz HAL
    go_enter Try.func17, Try.ntmps17
    go_wp2_with fail
    refine HRC.out.mono ?_
    rintro e w1 ⟨rfl, hw1⟩
    subst hw1
    go_wp2_with fail
    go_ret2
    exact ⟨Below.refl _ _, none, 0, [], z, rfl, XRow.nil _ _, by simp, HE.out⟩
end Go.Proofs.Ytbdkogccjnmfoaa
