/- StepFrees returns true where its arguments are of bulk at most 1048576: of any equations, by any signature, Free answers what the document asks; the condition is the second form's bound. -/
import Derived.Deep.CutBlock
import Derived.Test.YtfnfbljijkjkjaaTRCmp
import Derived.Test.YtfnfbljijkjkjaaTSpoil
import Derived.Test.YtfnfbljijkjkjaaLater
import Derived.BigQuiet
import Derived.Shelf.SlSortCmp.WholeK
import Derived.Test.YtfnfbljijkjkjaaProg
import Derived.Test.YtfnfbljijkjkjaaTCmp
import Derived.Test.YtfnfbljijkjkjaaKSqC
/- The document's Free: what its loop keeps. -/
namespace Go.Proofs.Ytfnfbljijkjkjaa
open Go.RowKit Go.Deep

/-- A row's value is a slice. -/
theorem eq_form {W : World} {B n : Nat} {v : Value} {P : List Eq2} (h : W.ownsRow B 28 6 v n (eqAll P)) (hn : n = P.length) : ∃ a cap, v = .slice a n cap ∧ n ≤ cap ∧ (a = none → cap = 0) ∧ RowE W a n P := by
  have h0 := h
  rcases h.2 with ⟨hv, hk⟩ | ⟨g, bcap, cur, hv, _, _, hnc, _, _⟩
  · subst hv
    have hP : P = [] := List.eq_nil_of_length_eq_zero (by omega)
    subst hP
    obtain rfl : n = 0 := hn
    exact ⟨none, 0, rfl, Nat.le_refl _, fun _ => rfl, RowE.empty _ _⟩
  · subst hv
    exact ⟨_, bcap, rfl, hnc, (fun e => by cases e), RowE.of h0 hn⟩
theorem bd_form {W : World} {B n : Nat} {v : Value} {ks : List Bk} (h : W.ownsRow B 33 4 v n (bkAll ks)) (hn : n = ks.length) : ∃ a cap, v = .slice a n cap ∧ n ≤ cap ∧ (a = none → cap = 0) ∧ RowB W a n ks := by
  have h0 := h
  rcases h.2 with ⟨hv, hk⟩ | ⟨g, bcap, cur, hv, _, _, hnc, _, _⟩
  · subst hv
    have hP : ks = [] := List.eq_nil_of_length_eq_zero (by omega)
    subst hP
    obtain rfl : n = 0 := hn
    exact ⟨none, 0, rfl, Nat.le_refl _, fun _ => rfl, RowB.empty _ _⟩
  · subst hv
    exact ⟨_, bcap, rfl, hnc, (fun e => by cases e), RowB.of h0 hn⟩
theorem RowB.binds {W : World} {a : Option Addr} {n : Nat} {ks : List Bk} (h : RowB W a n ks) (ht : ∀ b ∈ ks, TmAt W b.2.x b.2.a b.2.c b.2.l) (hn : n ≤ maxLen) (hs : ∀ b ∈ ks, b.1.size ≤ maxLen) : BindsAt W a (ks.map btn).length (ks.map btn) := by
  have hl := h.len
  refine ⟨rfl, by rw [List.length_map, ← hl]; exact hn, fun i hi => ?_, fun x hx => ?_⟩
  · rw [List.length_map] at hi
    have k : ∀ j u, (bkCells ks[i])[j]? = some u → j < 4 → ∃ b off, a = some ⟨b, off, none⟩ ∧ W.cell? ⟨b, off + (i * 4 + j), none⟩ = some u := fun j u hu hj => h.cells (i * 4 + j) u (by rw [bkAll_at ks i hi j hj]; exact hu)
    obtain ⟨b, off, rfl, h0⟩ := k 0 _ rfl (by decide)
    have k2 : ∀ j u, (bkCells ks[i])[j]? = some u → j < 4 → W.cell? ⟨b, off + i * 4 + j, none⟩ = some u := fun j u hu hj => by
      obtain ⟨b', off', e, hc⟩ := k j u hu hj
      cases e
      rw [Nat.add_assoc]
      exact hc
    refine ⟨b, off, ks[i].2.a, ks[i].2.c, rfl, ?_⟩
    rw [List.getElem_map]
    exact ⟨k2 0 _ rfl (by decide), k2 1 _ rfl (by decide), k2 2 _ rfl (by decide), k2 3 _ rfl (by decide), ht _ (List.getElem_mem hi)⟩
  · obtain ⟨b, hb, rfl⟩ := List.mem_map.1 hx
    exact hs b hb
/-- What the loop keeps. -/
structure RSt (sg : List Sym) (R : Int × List Bn) (w : World) (f : Nat) (lv bv : Value) (W : World) : Prop where
  is : ∃ (P : List Eq2) (q : Option Addr) (d : Nat) (ks : List Bk), lv = .slice q P.length d ∧ RowE W q P.length P ∧ P.length ≤ d ∧ (∀ p ∈ P, TmAt W p.1.x p.1.a p.1.c p.1.l ∧ TmAt W p.2.x p.2.a p.2.c p.2.l) ∧
    W.ownsRow w.heap.size 33 4 bv ks.length (bkAll ks) ∧ (∀ k ∈ ks, TmO (S0 w.heap.size) W k.2.x k.2.a k.2.c k.2.l) ∧ (∀ k ∈ ks, k.1.size ≤ maxLen) ∧ RInv sg R f (P.map tn2) (ks.map btn) ∧ Below w.heap.size w W
theorem flatL_len (L : List (Tn × Tn)) : (flatL L).length = 2 * L.length := by
  induction L with
  | nil => rfl
  | cons p r ih => simp only [flatL, List.flatMap_cons, List.length_append, List.length_cons, List.length_nil] at ih ⊢; omega
theorem flatK_mem {P : List Eq2} {z : Eq2} (h : z ∈ P) : z.1 ∈ flatK P ∧ z.2 ∈ flatK P := ⟨List.mem_flatMap.2 ⟨z, h, by simp⟩, List.mem_flatMap.2 ⟨z, h, by simp⟩⟩
theorem parts_pos {sg : List Sym} {A B : Tn} (h0 : cmpN A B ≠ 0) (ha : (lookP sg A B).act = 4) : (lookP sg A B).ls.length ≠ 0 := fun h => by
  obtain ⟨h1, h2, h3, h4, h5⟩ := look_parts ha
  rw [h5, List.length_zip, kids_len, kids_len, h4, Nat.min_self] at h
  refine h0 ?_
  unfold cmpN cmp1
  rw [h1, h2, if_neg (by decide), if_neg (by decide), if_pos h3, if_pos h4, len_nil (h4.trans h)]
  rfl
theorem count_of3 (I : Nat → Value → Value → World → Prop) : ∃ mu : Value → Value → World → Nat, ∀ a b W f, I f a b W → I (mu a b W) a b W ∧ mu a b W ≤ f := by
  classical
  refine ⟨fun a b W => if h : ∃ f, I f a b W then Classical.choose (least_p (fun f => I f a b W) _ (Classical.choose_spec h)) else 0, fun a b W f hf => ?_⟩
  have h : ∃ f, I f a b W := ⟨f, hf⟩
  have hs := Classical.choose_spec (least_p (fun f => I f a b W) _ (Classical.choose_spec h))
  dsimp only
  rw [dif_pos h]
  exact ⟨hs.1, hs.2 f hf⟩
theorem mid_at {D : List Eq2} {z : Eq2} {R : List Eq2} {j k : Nat} (hj : D.length = j) : (eqAll (D ++ z :: R))[j * 6 + k]? = (eqAll (z :: R))[k]? := by
  rw [eqAll_app, List.getElem?_append_right (by rw [eqAll_len, hj]; omega), eqAll_len, hj, show j * 6 + k - j * 6 = k by omega]
theorem mid_cells {w : World} {B g m c j : Nat} {D : List Eq2} {z : Eq2} {R : List Eq2} (h : w.ownsRow B 28 6 (.slice (some ⟨g, 0, none⟩) m c) m (eqAll (D ++ z :: R))) (hj : D.length = j) :
    w.cell? ⟨g, j * 6, none⟩ = some (.string z.1.x.1) ∧ w.cell? ⟨g, j * 6 + 1, none⟩ = some (.int .i64 z.1.x.2) ∧ w.cell? ⟨g, j * 6 + 2, none⟩ = some (.slice z.1.a (lenF z.1.l) z.1.c) ∧ w.cell? ⟨g, j * 6 + 3, none⟩ = some (.string z.2.x.1) ∧ w.cell? ⟨g, j * 6 + 4, none⟩ = some (.int .i64 z.2.x.2) ∧ w.cell? ⟨g, j * 6 + 5, none⟩ = some (.slice z.2.a (lenF z.2.l) z.2.c) :=
  ⟨owns_cell1 h (mid_at (k := 0) hj), owns_cell1 h (mid_at (k := 1) hj), owns_cell1 h (mid_at (k := 2) hj), owns_cell1 h (mid_at (k := 3) hj), owns_cell1 h (mid_at (k := 4) hj), owns_cell1 h (mid_at (k := 5) hj)⟩
theorem eq_set {D : List Eq2} {z : Eq2} {R : List Eq2} {j : Nat} (hj : D.length = j) (k1 k2 : Kv) : eqAll (D ++ (k1, k2) :: R) = ((((((eqAll (D ++ z :: R)).set (j * 6) (.string k1.x.1)).set (j * 6 + 1) (.int .i64 k1.x.2)).set (j * 6 + 2) (.slice k1.a (lenF k1.l) k1.c)).set (j * 6 + 3) (.string k2.x.1)).set (j * 6 + 4) (.int .i64 k2.x.2)).set (j * 6 + 5) (.slice k2.a (lenF k2.l) k2.c) := by
  have hl : (eqAll D).length = j * 6 := by rw [eqAll_len, hj]
  have key : ∀ (X : List Value) (i : Nat) (u : Value), (eqAll D ++ X).set (j * 6 + i) u = eqAll D ++ X.set i u := fun X i u => by
    rw [List.set_append_right _ _ (by omega), hl, show j * 6 + i - j * 6 = i by omega]
  rw [eqAll_app, eqAll_app, eqAll_cons, eqAll_cons]
  have k0 := key (.string z.1.x.1 :: .int .i64 z.1.x.2 :: .slice z.1.a (lenF z.1.l) z.1.c :: .string z.2.x.1 :: .int .i64 z.2.x.2 :: .slice z.2.a (lenF z.2.l) z.2.c :: eqAll R) 0 (.string k1.x.1)
  rw [Nat.add_zero] at k0
  rw [k0, key, key, key, key, key]
  rfl
theorem mid_set {w : World} {B g m c j : Nat} {D : List Eq2} {z : Eq2} {R : List Eq2} (h : w.ownsRow B 28 6 (.slice (some ⟨g, 0, none⟩) m c) m (eqAll (D ++ z :: R))) (hj : D.length = j) (k1 k2 : Kv) :
    (set6 w g (j * 6) k1 k2).ownsRow B 28 6 (.slice (some ⟨g, 0, none⟩) m c) m (eqAll (D ++ (k1, k2) :: R)) := by
  rw [eq_set (z := z) hj k1 k2]
  exact owns_set1 (owns_set1 (owns_set1 (owns_set1 (owns_set1 (owns_set1 h _ _) _ _) _ _) _ _) _ _) _ _
theorem owns_fz {w : World} {B e s g m c : Nat} {xs : List Value} (h : w.ownsRow B e s (.slice (some ⟨g, 0, none⟩) m c) m xs) (o : Nat) : w.frozen? ⟨g, o, none⟩ = false := by
  obtain ⟨_, cur, hc⟩ := owns_cells h rfl
  simp [World.frozen?, hc]
/-- The first loop: the bind put into the first equations. -/
structure L1 (N0 : Nat) (W2 : World) (v : Value) (m : Nat) (nm : ByteArray) (T : Tn) (r : List Eq2) (j : Nat) (D : List Eq2) (W : World) : Prop where
  len : D.length = j
  is : D.map tn2 = putS nm T ((r.take j).map tn2)
  tm : ∀ p ∈ D, TmO (S0 N0) W p.1.x p.1.a p.1.c p.1.l ∧ TmO (S0 N0) W p.2.x p.2.a p.2.c p.2.l
  own : W.ownsRow W2.heap.size 28 6 v m (eqAll (D ++ r.drop j))
  room : (((r.take j).map tn2).all fun q => roomT nm T q.1 && roomT nm T q.2) = true
  low : Below W2.heap.size W2 W
theorem L1.zero {N0 : Nat} {W2 : World} {v : Value} {m : Nat} {nm : ByteArray} {T : Tn} {r : List Eq2} {W : World} (h : W.ownsRow W2.heap.size 28 6 v m (eqAll r)) (hl : Below W2.heap.size W2 W) : L1 N0 W2 v m nm T r 0 [] W :=
  ⟨rfl, rfl, fun p hp => by simp at hp, by simpa using h, rfl, hl⟩
theorem L1.step {N0 : Nat} {W2 : World} {m c g : Nat} {nm : ByteArray} {T : Tn} {r : List Eq2} {j : Nat} {D : List Eq2} {W W' : World} {zz : Eq2} {k1 k2 : Kv} (h : L1 N0 W2 (.slice (some ⟨g, 0, none⟩) m c) m nm T r j D W) (hN : N0 ≤ W2.heap.size) (hj : j < r.length) (hz : r[j] = zz) (hb : Below W.heap.size W W')
    (e1 : k1.tn = w1T nm T zz.1.tn) (e2 : k2.tn = w1T nm T zz.2.tn) (t1 : TmO (S0 N0) W' k1.x k1.a k1.c k1.l) (t2 : TmO (S0 N0) W' k2.x k2.a k2.c k2.l) (r1 : roomT nm T zz.1.tn = true) (r2 : roomT nm T zz.2.tn = true) :
    L1 N0 W2 (.slice (some ⟨g, 0, none⟩) m c) m nm T r (j + 1) (D ++ [(k1, k2)]) (set6 W' g (j * 6) k1 k2) := by
  have ho := owns_below h.own hb
  rw [List.drop_eq_getElem_cons hj, hz] at ho
  obtain ⟨hg0, cur, hc0⟩ := owns_cells ho rfl
  have hg : W2.heap.size ≤ g := hg0
  have hc : W'.heap[g]? = some (Obj.cells cur 28 (0, 0)) := hc0
  have hf : Fr (fun q => q = g) W' (set6 W' g (j * 6) k1 k2) := ⟨set6_below (Below.refl 0 W') (Nat.zero_le _) _ _ _, fun _ _ hq => set6_far hq _ _ _⟩
  have hA : ∀ b o, b = g → W'.heap[b]? = some o → S0 N0 b o = false := fun b o hb ho2 => by
    subst hb
    rw [hc] at ho2
    cases ho2
    exact S0_not (by omega) (by decide)
  have htk : r.take (j + 1) = r.take j ++ [zz] := by rw [List.take_succ_eq_append_getElem hj, hz]
  refine ⟨by rw [List.length_append, h.len]; rfl, ?_, fun p hp => ?_, ?_, ?_, set6_below (h.low.trans (hb.mono h.low.size)) hg _ _ _⟩
  · rw [htk, List.map_append, h.is, List.map_append]
    unfold putS
    rw [List.map_append]
    congr 1
    show [tn2 (k1, k2)] = [(w1T nm T zz.1.tn, w1T nm T zz.2.tn)]
    unfold tn2
    rw [e1, e2]
  · rcases List.mem_append.1 hp with hp | hp
    · have := h.tm p hp
      exact ⟨tmO_fr (tmO_below this.1 hb) hf hA, tmO_fr (tmO_below this.2 hb) hf hA⟩
    · rw [List.mem_singleton.1 hp]
      exact ⟨tmO_fr t1 hf hA, tmO_fr t2 hf hA⟩
  · rw [List.append_assoc]
    exact mid_set ho h.len k1 k2
  · rw [htk, List.map_append, List.all_append, h.room]
    show (true && ((roomT nm T zz.1.tn && roomT nm T zz.2.tn) && true)) = true
    rw [r1, r2]
    rfl
theorem bmid_at {D : List Bk} {z : Bk} {R : List Bk} {j k : Nat} (hj : D.length = j) : (bkAll (D ++ z :: R))[j * 4 + k]? = (bkAll (z :: R))[k]? := by
  rw [bkAll_append, List.getElem?_append_right (by rw [bkAll_len, hj]; omega), bkAll_len, hj, show j * 4 + k - j * 4 = k by omega]
theorem bmid_cells {w : World} {B g m c j : Nat} {D : List Bk} {z : Bk} {R : List Bk} (h : w.ownsRow B 33 4 (.slice (some ⟨g, 0, none⟩) m c) m (bkAll (D ++ z :: R))) (hj : D.length = j) :
    w.cell? ⟨g, j * 4 + 1, none⟩ = some (.string z.2.x.1) ∧ w.cell? ⟨g, j * 4 + 2, none⟩ = some (.int .i64 z.2.x.2) ∧ w.cell? ⟨g, j * 4 + 3, none⟩ = some (.slice z.2.a (lenF z.2.l) z.2.c) :=
  ⟨owns_cell1 h (bmid_at (k := 1) hj), owns_cell1 h (bmid_at (k := 2) hj), owns_cell1 h (bmid_at (k := 3) hj)⟩
theorem bk_set {D : List Bk} {z : Bk} {R : List Bk} {j : Nat} (hj : D.length = j) (k : Kv) : bkAll (D ++ (z.1, k) :: R) = (((bkAll (D ++ z :: R)).set (j * 4 + 1) (.string k.x.1)).set (j * 4 + 2) (.int .i64 k.x.2)).set (j * 4 + 3) (.slice k.a (lenF k.l) k.c) := by
  have hl : (bkAll D).length = j * 4 := by rw [bkAll_len, hj]
  have key : ∀ (X : List Value) (i : Nat) (u : Value), (bkAll D ++ X).set (j * 4 + i) u = bkAll D ++ X.set i u := fun X i u => by
    rw [List.set_append_right _ _ (by omega), hl, show j * 4 + i - j * 4 = i by omega]
  rw [bkAll_append, bkAll_append, key, key, key]
  rfl
theorem bmid_set {w : World} {B g m c j : Nat} {D : List Bk} {z : Bk} {R : List Bk} (h : w.ownsRow B 33 4 (.slice (some ⟨g, 0, none⟩) m c) m (bkAll (D ++ z :: R))) (hj : D.length = j) (k : Kv) :
    (set3 w g (j * 4 + 1) k).ownsRow B 33 4 (.slice (some ⟨g, 0, none⟩) m c) m (bkAll (D ++ (z.1, k) :: R)) := by
  rw [bk_set (z := z) hj k]
  exact owns_set1 (owns_set1 (owns_set1 h _ _) _ _) _ _
/-- The second loop: the bind put into the first binds. -/
structure L2 (w : World) (W4 : World) (g c : Nat) (nm : ByteArray) (T : Tn) (ks : List Bk) (j : Nat) (D : List Bk) (W : World) : Prop where
  len : D.length = j
  is : D.map btn = putB nm T ((ks.take j).map btn)
  nms : ∀ b ∈ D, b.1.size ≤ maxLen
  tm : ∀ b ∈ D ++ ks.drop j, TmO (S0 w.heap.size) W b.2.x b.2.a b.2.c b.2.l
  own : W.ownsRow w.heap.size 33 4 (.slice (some ⟨g, 0, none⟩) ks.length c) ks.length (bkAll (D ++ ks.drop j))
  room : (((ks.take j).map btn).all fun b => roomT nm T b.2) = true
  keep : ∀ q, q < W4.heap.size → q ≠ g → W.heap[q]? = W4.heap[q]?
  size : W4.heap.size ≤ W.heap.size
  low : Below w.heap.size w W
theorem L2.zero {w W4 : World} {g c : Nat} {nm : ByteArray} {T : Tn} {ks : List Bk} (h : W4.ownsRow w.heap.size 33 4 (.slice (some ⟨g, 0, none⟩) ks.length c) ks.length (bkAll ks)) (ht : ∀ b ∈ ks, TmO (S0 w.heap.size) W4 b.2.x b.2.a b.2.c b.2.l) (hl : Below w.heap.size w W4) : L2 w W4 g c nm T ks 0 [] W4 :=
  ⟨rfl, rfl, fun p hp => by simp at hp, by simpa using ht, by simpa using h, rfl, fun _ _ _ => rfl, Nat.le_refl _, hl⟩
theorem L2.step {w W4 : World} {g c : Nat} {nm : ByteArray} {T : Tn} {ks : List Bk} {j : Nat} {D : List Bk} {W W' : World} {zz : Bk} {k : Kv} (h : L2 w W4 g c nm T ks j D W) (hs : ∀ b ∈ ks, b.1.size ≤ maxLen) (hj : j < ks.length) (hz : ks[j] = zz) (hb : Below W.heap.size W W')
    (e1 : k.tn = w1T nm T zz.2.tn) (t1 : TmO (S0 w.heap.size) W' k.x k.a k.c k.l) (r1 : roomT nm T zz.2.tn = true) :
    L2 w W4 g c nm T ks (j + 1) (D ++ [(zz.1, k)]) (set3 W' g (j * 4 + 1) k) := by
  have ho := owns_below h.own hb
  have hdr : ks.drop j = zz :: ks.drop (j + 1) := by rw [List.drop_eq_getElem_cons hj, hz]
  rw [hdr] at ho
  obtain ⟨hg0, cur, hc0⟩ := owns_cells ho rfl
  have hg : w.heap.size ≤ g := hg0
  have hc : W'.heap[g]? = some (Obj.cells cur 33 (0, 0)) := hc0
  have hf := set3_fr W' g (j * 4 + 1) k
  have hA : ∀ b o, b = g → W'.heap[b]? = some o → S0 w.heap.size b o = false := fun b o hb ho2 => by
    subst hb
    rw [hc] at ho2
    cases ho2
    exact S0_not (by omega) (by decide)
  have htk : ks.take (j + 1) = ks.take j ++ [zz] := by rw [List.take_succ_eq_append_getElem hj, hz]
  have hzm : zz ∈ ks := by rw [← hz]; exact List.getElem_mem hj
  refine ⟨by rw [List.length_append, h.len]; rfl, ?_, fun b hbm => ?_, fun b hbm => ?_, ?_, ?_, fun q hq hn => ?_, ?_, set3_below (h.low.trans (hb.mono h.low.size)) hg _ _⟩
  · rw [htk, List.map_append, h.is, List.map_append]
    unfold putB
    rw [List.map_append]
    congr 1
    show [btn (zz.1, k)] = [(zz.1, w1T nm T zz.2.tn)]
    unfold btn
    rw [e1]
  · rcases List.mem_append.1 hbm with hbm | hbm
    · exact h.nms b hbm
    · rw [List.mem_singleton.1 hbm]; exact hs zz hzm
  · rcases List.mem_append.1 hbm with hbm | hbm
    · rcases List.mem_append.1 hbm with hbm | hbm
      · exact tmO_fr (tmO_below (h.tm b (List.mem_append_left _ hbm)) hb) hf hA
      · rw [List.mem_singleton.1 hbm]; exact tmO_fr t1 hf hA
    · exact tmO_fr (tmO_below (h.tm b (List.mem_append_right _ (by rw [hdr]; exact .tail _ hbm))) hb) hf hA
  · rw [List.append_assoc]
    exact bmid_set ho h.len k
  · rw [htk, List.map_append, List.all_append, h.room]
    show (true && (roomT nm T zz.2.tn && true)) = true
    rw [r1]
    rfl
  · rw [set3_far hn, hb.block q (Nat.lt_of_lt_of_le hq h.size)]
    exact h.keep q hq hn
  · rw [set3_size]
    exact Nat.le_trans h.size hb.size
/-- What lies elsewhere stays. -/
theorem keep_tm {N0 : Nat} {W4 W : World} {g : Nat} {cur : Array Value} {e : TypeId} (hc : W4.heap[g]? = some (Obj.cells cur e (0, 0))) (he : e ≠ 26) (hg : N0 ≤ g) (hk : ∀ q, q < W4.heap.size → q ≠ g → W.heap[q]? = W4.heap[q]?) {x : ByteArray × Int} {a : Option Addr} {c : Nat} {l : Fo} (h : TmO (S0 N0) W4 x a c l) : TmO (S0 N0) W x a c l :=
  tmO_move h fun b o ho hs => by
    have hlt : b < W4.heap.size := (Array.getElem?_eq_some_iff.1 ho).1
    have hne : b ≠ g := fun e => by
      subst e
      rw [hc] at ho
      cases ho
      rw [S0_not hg he] at hs
      cases hs
    exact ⟨(hk b hlt hne).trans ho, hs⟩
set_option maxRecDepth 100000 in
set_option maxHeartbeats 16000000 in
theorem rfreeM_any (S : Option Addr) (n cap : Nat) (sg : List Sym) (P : List Eq2) (q : Option Addr) (d : Nat) (w : World) (hG : SigAt w S n sg) (hP : ∀ p ∈ P, TmAt w p.1.x p.1.a p.1.c p.1.l ∧ TmAt w p.2.x p.2.a p.2.c p.2.l) (hq : EqsAt w q P) (hd : P.length ≤ d) (hok : ∀ p ∈ P, okT p.1.tn ∧ okT p.2.tn) (hs : sizeP P ≤ 1048576) :
    Calls Try.prog 16 #[.slice S n cap, .slice q P.length d] w (FreeEnd sg P w) := by
  have HG := hid hG; have HP := hid hP; have HQ := hid hq.row; have HOK := hid hok; have HQE := hid hq
  have hl3 := sizeP_len P
  obtain ⟨f0, R, hfR, hF0⟩ := free_first (sg := sg) hok hs
  have HF0 := hid hF0; have HFR := hid hfR
  have hln : P.length ≤ 1048576 := by omega
  have HS := hid hs; have HD := hid hd
  clear hG hP hq hok hfR hF0 hl3 hs hd
  obtain ⟨N, hN⟩ : ∃ N, P.length = N := ⟨_, rfl⟩
  have HN := hid hN
  rw [hN] at hln ⊢
  clear hN
  go_enter Try.func16, Try.ntmps16
  go_wp2_with fail
  go_loopw [7, 8, 9] (fun iv _ _ wr => ∃ j : Nat, j ≤ N ∧ iv = .int .i64 j ∧ (P.take j).all (af2 sg) = true ∧ Below w.heap.size w wr) (fun iv _ _ _ => N - (intOf iv).toNat)
  case atStart => exact ⟨0, Nat.zero_le _, rfl, by simp, Below.refl _ _⟩
  case round =>
    obtain ⟨j, hj, rfl, hall, hlow⟩ := hrel
    have HW := hid hlow; have HA := hid hall
    clear hlow hall
    by_cases hlt : j < N
    · have hjP : j < P.length := by rw [HN.out]; exact hlt
      obtain ⟨g, o, rfl, q0, q1, q2, q3, q4, q5⟩ := HQE.out j hjP
      have q0 := below_cell HW.out _ _ q0; have q1 := below_cell HW.out _ _ q1; have q2 := below_cell HW.out _ _ q2; have q3 := below_cell HW.out _ _ q3; have q4 := below_cell HW.out _ _ q4; have q5 := below_cell HW.out _ _ q5
      have hpm : P[j] ∈ P := List.getElem_mem hjP
      have htk : (P.take (j + 1)).all (af2 sg) = af2 sg P[j] := by rw [List.take_succ_eq_append_getElem hjP, List.all_append, HA.out]; simp
      have HTK := hid htk
      have hcut : af2 sg P[j] = false → P.all (af2 sg) = false := fun h => all_cut hjP h
      have HCUT := hid hcut
      have HO1 := hid (HOK.out _ hpm); have HP1 := hid (HP.out _ hpm)
      obtain ⟨pp, hpp⟩ : ∃ pp, P[j] = pp := ⟨_, rfl⟩
      rw [hpp] at q0 q1 q2 q3 q4 q5 HTK HCUT HO1 HP1
      clear hpm htk hcut hpp
      have HC1 := hid (rfr_any sg S n cap pp.1.x pp.1.l pp.1.a pp.1.c wr (HG.out.below HW.out) (HP1.out.1.below HW.out) HO1.out.1)
      have hji : (j : Int) < (N : Int) := by omega
      have hj0 : (0 : Int) ≤ (j : Int) := by omega
      go_wp2_with fail
      refine HC1.out.mono ?_
      rintro e w1 ⟨rfl, hb1⟩
      have HW1 := hid (HW.out.trans (hb1.mono HW.out.size))
      have q3 := below_cell hb1 _ _ q3; have q4 := below_cell hb1 _ _ q4; have q5 := below_cell hb1 _ _ q5
      have HC2 := hid (rfr_any sg S n cap pp.2.x pp.2.l pp.2.a pp.2.c w1 (HG.out.below HW1.out) (HP1.out.2.below HW1.out) HO1.out.2)
      clear hb1 q0 q1 q2 HC1
      obtain ⟨t1, ht1⟩ : ∃ t, afT sg pp.1.x pp.1.l = t := ⟨_, rfl⟩
      rw [ht1]
      have HT1 := hid ht1
      clear ht1
      go_wp2_with fail
      refine HC2.out.mono ?_
      rintro e w2 ⟨rfl, hb2⟩
      have HW2 := hid (HW1.out.trans (hb2.mono HW1.out.size))
      clear hb2 q3 q4 q5 HC2
      obtain ⟨t2, ht2⟩ : ∃ t, afT sg pp.2.x pp.2.l = t := ⟨_, rfl⟩
      rw [ht2]
      have HT2 := hid ht2
      clear ht2
      cases t1 with
      | false =>
        go_wp2_with fail
        refine bodyPost_ret (results_tmp3 rfl _ _ _) rfl ?_
        exact ⟨HW2.out, .inl ⟨HCUT.out (by unfold af2; rw [HT1.out]; rfl), rfl⟩⟩
      | true =>
        cases t2 with
        | false =>
          go_wp2_with fail
          refine bodyPost_ret (results_tmp3 rfl _ _ _) rfl ?_
          exact ⟨HW2.out, .inl ⟨HCUT.out (by unfold af2; rw [HT1.out, HT2.out]; rfl), rfl⟩⟩
        | true =>
          go_wp2_with fail
          go_roundw
          case rel => exact ⟨j + 1, by omega, by go_num, by rw [HTK.out]; unfold af2; rw [HT1.out, HT2.out]; rfl, HW2.out⟩
          case measure => simp [intOf]; omega
    · obtain rfl : j = N := by omega
      have hall : P.all (af2 sg) = true := by have := HA.out; rw [List.take_of_length_le (by rw [HN.out]; exact Nat.le_refl _)] at this; exact this
      have HALL := hid hall
      obtain ⟨mu, hmu⟩ := count_of3 (fun f lv bv W => RSt sg R w f lv bv W)
      have HMU := hid hmu
      have H0 : Hid (RSt sg R w f0 (.slice q j d) (.slice none 0 0) wr) := hid ⟨P, q, d, [], by rw [HN.out], HQ.out.below HW.out, HD.out, fun p hp => ⟨(HP.out p hp).1.below HW.out, (HP.out p hp).2.below HW.out⟩, World.ownsRow_nil _ _ _ _, fun k hk => by simp at hk, fun k hk => by simp at hk,
        ⟨⟨[], HF0.out, List.Perm.refl _, fun b hb => by simp at hb⟩, fun z hz => by
          obtain ⟨p, hp, rfl⟩ := List.mem_map.1 hz
          have := List.all_eq_true.1 hall p hp
          unfold af2 at this
          rw [Bool.and_eq_true] at this
          exact this, List.Pairwise.nil⟩, HW.out⟩
      clear hall hmu HA HQE HQ
      go_wp2_with fail
      go_loopw [1, 10] (fun lv bv wr => ∃ f, RSt sg R w f lv bv wr) (fun lv bv wr => mu lv bv wr)
      case atStart => exact ⟨f0, H0.out⟩
      case round =>
        obtain ⟨f, hrs⟩ := hrel
        have HST := hid (HMU.out _ _ _ _ hrs).1
        clear hrs H0
        obtain ⟨P1, q1, d1, ks, hlv, hrow, hd1, hPt, hbrow, hbt, hbs, hinv, hlow⟩ := HST.out
        subst hlv
        have hlen := hinv.len
        rw [List.length_map, List.length_map] at hlen
        cases P1 with
        | nil =>
          obtain ⟨bs, hR0, hperm⟩ := hinv.done
          obtain ⟨ba, bc, hbv, _, _, hrb⟩ := bd_form hbrow rfl
          subst hbv
          have HB := hid (hrb.binds (fun b hb => tmO_tm (hbt b hb)) (by unfold maxLen; omega) hbs)
          have HE := hid hlow; have HR0 := hid hR0; have HPM := hid hperm; have HSR := hid hinv.srt
          have HBL : Hid (bs.length ≤ 1048576) := hid (by rw [← hperm.length_eq, List.length_map]; omega)
          clear hrow hPt hbrow hbt hbs hinv hlow hR0 hperm hrb hlen HST HMU
          go_wp2_with fail
          refine bodyPost_ret (results_tmp3 rfl _ _ _) rfl ?_
          refine ⟨HE.out, .inr ⟨HALL.out, f0, R, HFR.out, .inr (.inr ⟨bs, ba, bc, ks.map btn, HR0.out, ?_, HB.out, HPM.out, HSR.out, HBL.out⟩)⟩⟩
          rw [List.length_map]; rfl
        | cons p r =>
          obtain ⟨g1, o1, rfl, c0, c1, c2, c3, c4, c5⟩ := hrow.head
          have HTL := hid hrow.tail
          have HPT := hid hPt; have HBR := hid hbrow; have HBT := hid hbt; have HBS := hid hbs; have HINV := hid hinv; have HLOW := hid hlow
          have HAF := hid (hinv.af (tn2 p) (.head _)); have HOKS := hid hinv.oks
          have HTP := hid (hPt p (.head _))
          have HGW := hid (HG.out.below hlow)
          obtain ⟨m, hm⟩ : ∃ m, r.length = m := ⟨_, rfl⟩
          have HM := hid hm
          simp only [List.length_cons, hm] at hlen hd1 HTL ⊢
          simp only [Nat.add_sub_cancel] at HTL
          have hd0 : (1 : Int) ≤ (d1 : Int) := by omega
          have hm0 : (0 : Int) < ((m + 1 : Nat) : Int) := by omega
          clear hrow hPt hbrow hbt hbs hinv hlow hm HST
          go_upto_region 10 with fail
          go_cut [11] (fun pv wx => ∃ (B : Nat) (cs : Array Value), pv = .pointer (some ⟨B, 0, none⟩) ∧ Box wx B 36 cs ∧ ((oneP sg p.1.tn p.2.tn).act = 3 → WyO wx (.agg cs) (lookP sg p.1.tn p.2.tn).bv (lookP sg p.1.tn p.2.tn).t) ∧ ((oneP sg p.1.tn p.2.tn).act ≠ 3 → WyAt wx (.agg cs) (oneP sg p.1.tn p.2.tn)) ∧ Below wr.heap.size wr wx)
          case first =>
            by_cases h3 : (oneP sg p.1.tn p.2.tn).act = 3
            · have h0 : cmpN p.1.tn p.2.tn ≠ 0 := fun h => by unfold oneP at h3; rw [if_pos h] at h3; exact absurd h3 (by decide)
              have ha : (lookP sg p.1.tn p.2.tn).act = 3 := by unfold oneP at h3; rw [if_neg h0] at h3; exact h3
              have hset : Calls Try.prog 12 #[.slice S n cap, .agg #[.string p.1.x.1, .int .i64 p.1.x.2, .slice p.1.a (lenF p.1.l) p.1.c, .string p.2.x.1, .int .i64 p.2.x.2, .slice p.2.a (lenF p.2.l) p.2.c]] wr (fun e w' => (∃ v, e = .returned v ∧ WyO w' v (lookP sg p.1.tn p.2.tn).bv (lookP sg p.1.tn p.2.tn).t) ∧ Below wr.heap.size wr w') := rone_set S n cap sg p.1.tn p.2.tn p.1.a p.2.a p.1.c p.2.c wr HTP.out.1 HTP.out.2 h0 ha
              have H3 := hid h3
              clear h0 ha h3
              obtain ⟨nm, hnm⟩ : ∃ nm, (lookP sg p.1.tn p.2.tn).bv = nm := ⟨_, rfl⟩
              obtain ⟨T, hTe⟩ : ∃ T, (lookP sg p.1.tn p.2.tn).t = T := ⟨_, rfl⟩
              rw [hnm, hTe] at hset
              have HNM := hid hnm; have HTE := hid hTe
              have HSET := hid hset
              clear hset hnm hTe
              go_wp2_with fail
              refine HSET.out.mono ?_
              rintro e w1 ⟨⟨v1, rfl, hv1⟩, hb1⟩
              obtain ⟨ta, tc, hv1e, hto⟩ := hv1.is
              rw [hv1e]
              have HTO := hid hto; have HB1 := hid hb1
              clear hv1 hb1 hv1e hto c0 c1 c2 c3 c4 c5
              unfold wayC
              go_wp2_with fail
              go_meet
              exact ⟨w1.heap.size, _, rfl, Box.new w1 36 _, (fun _ => by rw [HNM.out, HTE.out]; exact ⟨ta, tc, rfl, HTO.out.below (alloc_below0 _ _)⟩), (fun h => absurd H3.out h), HB1.out.alloc HB1.out.size _⟩
            · have hC : Calls Try.prog 12 #[.slice S n cap, .agg #[.string p.1.x.1, .int .i64 p.1.x.2, .slice p.1.a (lenF p.1.l) p.1.c, .string p.2.x.1, .int .i64 p.2.x.2, .slice p.2.a (lenF p.2.l) p.2.c]] wr _ := (rone_any S n cap sg p.1.tn p.2.tn p.1.a p.2.a p.1.c p.2.c wr HGW.out HTP.out.1 HTP.out.2 (HOKS.out.1 (tn2 p) (.head _)).2.1 (fun hx => HAF.out.1.in hx))
              have HONE := hid hC; have H3 := hid h3
              clear hC h3
              go_wp2_with fail
              refine HONE.out.mono ?_
              rintro e w1 ⟨⟨v1, rfl, hv1⟩, hb1⟩
              obtain ⟨bv1, x1, a1, n1, cc1, la1, ln1, lc1, sy1, hv1e⟩ := wy_form hv1
              rw [hv1e] at hv1 ⊢
              have HV1 := hid hv1; have HB1 := hid hb1
              obtain ⟨ac, hac⟩ : ∃ ac, (oneP sg p.1.tn p.2.tn).act = ac := ⟨_, rfl⟩
              rw [hac] at HV1 ⊢
              clear hv1 hb1 hv1e hac c0 c1 c2 c3 c4 c5
              unfold wayC
              go_wp2_with fail
              go_meet
              exact ⟨w1.heap.size, _, rfl, Box.new w1 36 _, (fun h => absurd h H3.out), (fun _ => HV1.out.below (alloc_below0 _ _)), HB1.out.alloc HB1.out.size _⟩
          case rest =>
          obtain ⟨B, cs, hpv, hbx, hw3, hwn, hb2⟩ := hcut
          subst hpv
          rename World => W2
          have HW3 := hid hw3; have HWN := hid hwn
          clear hw3 hwn
          have HTL2 := hid (HTL.out.below hb2)
          have HL2 := hid (HLOW.out.trans (hb2.mono HLOW.out.size))
          have A2 := hid (alloc_below0 W2 (.cells #[] 28))
          have HPT2 := hid (fun z hz => (⟨(HPT.out z hz).1.below hb2, (HPT.out z hz).2.below hb2⟩ : TmAt W2 z.1.x z.1.a z.1.c z.1.l ∧ TmAt W2 z.2.x z.2.a z.2.c z.2.l))
          have HBR2 := hid (owns_below HBR.out hb2)
          have HBT2 := hid (fun k hk => tmO_below (HBT.out k hk) hb2)
          have HBX := hid hbx
          clear hb2 hbx c0 c1 c2 c3 c4 c5
          go_upto_region 11 with fail
          go_cut [12] (fun v wc => ∃ (a3 : Option Addr) (c3 : Nat), v = .slice a3 m c3 ∧ wc.ownsRow W2.heap.size 28 6 (.slice a3 m c3) m (eqAll r) ∧ m ≤ c3 ∧ (a3 = none → c3 = 0) ∧ RowE wc a3 m r ∧ Below W2.heap.size W2 wc)
          case first =>
            by_cases hcap : d1 = 1
            · have hm1 : m = 0 := by omega
              have HM0 : Hid (r = []) := hid (List.eq_nil_of_length_eq_zero (by rw [HM.out]; exact hm1))
              have HM1 := hid hm1
              have hx2 : d1 - 1 = 0 := by omega
              clear hcap hm1
              go_wp2_with (at_builtin; refine wpList_append_eqs rfl (.tmp 55) (.tmp 57) rfl W2.heap.size _ [] rfl (row_empty28 W2) (some ⟨g1, o1, none⟩) m 0 r rfl (by rw [HM0.out, HM1.out]; exact RowE.empty _ _) (fun e => by cases e) (by simp; omega) (by simp) ?_; intro v3 w3 hown3 hgrow3; simp only [List.nil_append] at hown3; rw [HM.out] at hown3; obtain ⟨a3, c3, hv3, hl3, hz3, hr3⟩ := eq_form hown3 HM.out.symm; rw [hv3] at hown3 ⊢; have HV3 := hid hl3; have HZ3 := hid hz3; have HR3 := hid hr3; have HB3 := hid (A2.out.grown hgrow3 (by simp) (fun k e => by cases e; exact Nat.le_refl _)); have HO3 := hid hown3; clear hown3 hgrow3 hv3 hl3 hz3 hr3)
              go_meet
              exact ⟨a3, c3, rfl, HO3.out, HV3.out, HZ3.out, HR3.out, HB3.out⟩
            · have hx3 : ¬ (d1 - 1 = 0) := by omega
              clear hcap
              go_wp2_with (at_builtin; refine wpList_append_eqs rfl (.tmp 55) (.tmp 57) rfl W2.heap.size _ [] rfl (row_empty28 W2) (some ⟨g1, o1 + 6, none⟩) m (d1 - 1) r rfl (HTL2.out.below A2.out) (fun e => by cases e) (by simp; omega) (by simp) ?_; intro v3 w3 hown3 hgrow3; simp only [List.nil_append] at hown3; rw [HM.out] at hown3; obtain ⟨a3, c3, hv3, hl3, hz3, hr3⟩ := eq_form hown3 HM.out.symm; rw [hv3] at hown3 ⊢; have HV3 := hid hl3; have HZ3 := hid hz3; have HR3 := hid hr3; have HB3 := hid (A2.out.grown hgrow3 (by simp) (fun k e => by cases e; exact Nat.le_refl _)); have HO3 := hid hown3; clear hown3 hgrow3 hv3 hl3 hz3 hr3)
              go_meet
              exact ⟨a3, c3, rfl, HO3.out, HV3.out, HZ3.out, HR3.out, HB3.out⟩
          case rest =>
          obtain ⟨a3, c3, hv3, ho3, hl3, hz3, hr3, hb3⟩ := hcut
          subst hv3
          rename World => w3
          have HO3 := hid ho3; have HV3 := hid hl3; have HZ3 := hid hz3; have HR3 := hid hr3; have HB3 := hid hb3
          clear ho3 hl3 hz3 hr3 hb3 HTL2 HTL A2
          by_cases h0 : cmpN p.1.tn p.2.tn = 0
          · skip
            have hact : (oneP sg p.1.tn p.2.tn).act = 1 := by unfold oneP; rw [if_pos h0]; rfl
            have HNX := hid (HINV.out.same h0)
            clear h0
            have hwy := HWN.out (by rw [hact]; decide)
            obtain ⟨bv1, x1, a1, n1, cc1, la1, ln1, lc1, sy1, hv1e⟩ := wy_form hwy
            rw [hact] at hv1e
            simp only [Value.agg.injEq] at hv1e
            have hbx := HBX.out
            subst hv1e
            unfold wayC at hbx
            have y0 := (hbx.below HB3.out).c 0
            clear hact hwy HBX HWN HW3 hbx
            go_wp2_with fail
            obtain ⟨fg, hfg, hni⟩ := HNX.out
            have hnew : RSt sg R w fg (.slice a3 m c3) _ w3 := ⟨r, a3, c3, ks, by rw [HM.out], by rw [HM.out]; exact HR3.out, by rw [HM.out]; exact HV3.out, fun z hz => ⟨(HPT2.out z (.tail _ hz)).1.below HB3.out, (HPT2.out z (.tail _ hz)).2.below HB3.out⟩, owns_below HBR2.out HB3.out, fun k hk => tmO_below (HBT2.out k hk) HB3.out, HBS.out, hni, HL2.out.trans (HB3.out.mono HL2.out.size)⟩
            have HNEW := hid hnew; have HFG := hid hfg
            clear hni hnew hfg y0
            go_roundw
            case rel => exact ⟨fg, HNEW.out⟩
            case measure => exact Nat.lt_of_le_of_lt (HMU.out _ _ _ fg HNEW.out).2 (by have h := HFG.out; simp only [List.length_cons, HM.out] at h; exact h)
          · have hone : oneP sg p.1.tn p.2.tn = lookP sg p.1.tn p.2.tn := by unfold oneP; rw [if_neg h0]
            rcases look_acts sg p.1.tn p.2.tn with ha | ha | ha | ha | ha
            · exact absurd ha (look_not h0 HAF.out.1).1
            · skip
              have hact : (oneP sg p.1.tn p.2.tn).act = 2 := by rw [hone]; exact ha
              have HRF := hid (HINV.out.fail ha)
              clear h0 ha hone
              have hwy := HWN.out (by rw [hact]; decide)
              obtain ⟨bv1, x1, a1, n1, cc1, la1, ln1, lc1, sy1, hv1e⟩ := wy_form hwy
              rw [hact] at hv1e
              simp only [Value.agg.injEq] at hv1e
              have hbx := HBX.out
              subst hv1e
              unfold wayC at hbx
              have y0 := (hbx.below HB3.out).c 0
              clear hact hwy HBX HWN HW3 hbx
              go_wp2_with fail
              refine bodyPost_ret (results_tmp3 rfl _ _ _) rfl ?_
              exact ⟨HL2.out.trans (HB3.out.mono HL2.out.size), .inr ⟨HALL.out, f0, R, HFR.out, .inl ⟨HRF.out, rfl⟩⟩⟩
            · skip
              have hst := look_set (HOKS.out.1 (tn2 p) (.head _)).1.1 (HOKS.out.1 (tn2 p) (.head _)).1.2 ha
              have hTs : nodesF (lookP sg p.1.tn p.2.tn).t.2 ≤ 1048576 ∧ (lookP sg p.1.tn p.2.tn).bv.size ≤ maxLen := by
                have hsz := (HOKS.out.1 (tn2 p) (.head _)).2
                rcases hst.2.2.2 with ⟨e1, e2, _⟩ | ⟨e1, e2, _⟩
                · have e1' : (lookP sg p.1.tn p.2.tn).bv = p.1.x.1 := e1
                  have e2' : (lookP sg p.1.tn p.2.tn).t = p.2.tn := e2
                  rw [e1', e2']; exact ⟨hsz.2, HTP.out.1.sizes.name⟩
                · have e1' : (lookP sg p.1.tn p.2.tn).bv = p.2.x.1 := e1
                  have e2' : (lookP sg p.1.tn p.2.tn).t = p.1.tn := e2
                  rw [e1', e2']; exact ⟨hsz.1, HTP.out.2.sizes.name⟩
              have hgrw : roomS (lookP sg p.1.tn p.2.tn).bv (lookP sg p.1.tn p.2.tn).t (r.map tn2) (ks.map btn) = false → R = (2, []) := fun h => HINV.out.grown ha h
              have hstn := fun (hr : roomS (lookP sg p.1.tn p.2.tn).bv (lookP sg p.1.tn p.2.tn).t (r.map tn2) (ks.map btn) = true) (j : Nat) (hj : j ≤ (ks.map btn).length) h1 h2 => HINV.out.set ha hr hj h1 h2
              have hst1 : noName (lookP sg p.1.tn p.2.tn).bv = false := hst.1
              have hst2 : okT (lookP sg p.1.tn p.2.tn).t := hst.2.1
              have hw3 := HW3.out (by rw [hone]; exact ha)
              clear HW3 HWN
              simp only [tn2] at hstn
              clear hst h0 ha hone
              generalize (lookP sg p.1.tn p.2.tn).bv = nm at hTs hgrw hstn hst1 hst2 hw3
              generalize (lookP sg p.1.tn p.2.tn).t = T at hTs hgrw hstn hst1 hst2 hw3
              have HGRW := hid hgrw; have HSTN := hid hstn
              have HNN := hid hst1; have HOT := hid hst2; have HTS := hid hTs
              clear hgrw hstn hst1 hst2 hTs
              obtain ⟨ta, tc, hv1e, hto⟩ := hw3.is
              simp only [Value.agg.injEq] at hv1e
              have hbx := HBX.out
              subst hv1e
              unfold wayC at hbx
              clear HBX hw3
              have HTO := hid hto; have HBX := hid hbx
              have y0 : w3.cell? ⟨B, 0, none⟩ = some (.int .i64 3) := (HBX.out.below HB3.out).c 0
              clear hto hbx
              go_upto_block 5 with fail
              clear y0
              go_cut [13] (fun _ wc => ∃ D, L1 w.heap.size W2 (.slice a3 m c3) m nm T r m D wc)
              case first =>
                rcases HO3.out.2 with ⟨hv, hm9⟩ | ⟨gR, cap9, cur9, hv, _, _, hc9, hc8, _, _⟩
                · obtain ⟨rfl, hm7, rfl⟩ : a3 = none ∧ m = 0 ∧ c3 = 0 := by simpa using hv
                  have HM9 := hid hm9
                  have HR9 : Hid (r = []) := hid (List.eq_nil_of_length_eq_zero (by rw [HM.out]; exact hm9))
                  clear hv hm9 hm7
                  go_wp2_with fail
                  go_loopw [13, 14, 15, 16, 17] (fun iv _ _ _ _ wx => iv = .int .i64 0 ∧ wx = w3) (fun _ _ _ _ _ _ => 0)
                  case atStart => exact ⟨rfl, rfl⟩
                  case round =>
                    obtain ⟨rfl, rfl⟩ := hrel
                    have hm8 : ¬ (0 : Int) < (m : Int) := by rw [HM9.out]; decide
                    go_wp2_with fail
                    go_meet
                    exact ⟨[], by rw [HM9.out] at HO3 ⊢; exact L1.zero HO3.out HB3.out⟩
                · obtain ⟨rfl, rfl⟩ : a3 = some ⟨gR, 0, none⟩ ∧ c3 = cap9 := by simpa using hv
                  have hcm : c3 ≤ 9223372036854775807 := hc8
                  clear hv
                  go_wp2_with fail
                  go_loopw [13, 14, 15, 16, 17] (fun iv _ _ _ _ wx => ∃ (j : Nat) (D : List Eq2), iv = .int .i64 j ∧ j ≤ m ∧ L1 w.heap.size W2 (.slice (some ⟨gR, 0, none⟩) m c3) m nm T r j D wx) (fun iv _ _ _ _ _ => m - (intOf iv).toNat)
                  case atStart => exact ⟨0, [], rfl, Nat.zero_le _, L1.zero HO3.out HB3.out⟩
                  case round =>
                    obtain ⟨j, D, rfl, hj, hL⟩ := hrel
                    have HLL := hid hL
                    by_cases hlt : j < m
                    · have hjr : j < r.length := by rw [HM.out]; exact hlt
                      obtain ⟨zz, hzz⟩ : ∃ zz, r[j] = zz := ⟨_, rfl⟩
                      have hzm : zz ∈ r := by rw [← hzz]; exact List.getElem_mem hjr
                      have hdr : r.drop j = zz :: r.drop (j + 1) := by rw [List.drop_eq_getElem_cons hjr, hzz]
                      have hown := hL.own
                      rw [hdr] at hown
                      obtain ⟨m0, m1, m2, m3, m4, m5⟩ := mid_cells hown hL.len
                      have HOWN := hid hown
                      have HWX := hid hL.low
                      have Qx := HBX.out.below hL.low
                      have e1 : wr.cell? ⟨B, 1, none⟩ = some (.string nm) := Qx.c 1
                      have e2 : wr.cell? ⟨B, 2, none⟩ = some (.string T.1.1) := Qx.c 2
                      have e3 : wr.cell? ⟨B, 3, none⟩ = some (.int .i64 T.1.2) := Qx.c 3
                      have e4 : wr.cell? ⟨B, 4, none⟩ = some (.slice ta (lenF T.2) tc) := Qx.c 4
                      have HQX := hid Qx
                      have hok : (okT zz.1.tn ∧ okT zz.2.tn) := (HOKS.out.1 (tn2 zz) (.tail _ (List.mem_map_of_mem hzm))).1
                      have HCUT : Hid ((roomT nm T zz.1.tn && roomT nm T zz.2.tn) = false → R = (2, [])) := hid (fun h => HGRW.out (by
                        unfold roomS
                        rw [all_cut (j := j) (by rw [List.length_map]; exact hjr) (by rw [List.getElem_map, hzz]; exact h)]
                        rfl))
                      obtain ⟨rb1, hrb1⟩ : ∃ b, roomT nm T zz.1.tn = b := ⟨_, rfl⟩
                      obtain ⟨rb2, hrb2⟩ : ∃ b, roomT nm T zz.2.tn = b := ⟨_, rfl⟩
                      have HP1 := hid fun (W' : World) (h : Below W2.heap.size W2 W') => ((by have h9 := rput_any nm T ta tc zz.1.tn zz.1.a zz.1.c W' (HTO.out.tm.below h) ((HPT2.out zz (.tail _ hzm)).1.below h) HNN.out hok.1 HTS.out.1 HTS.out.2; rw [hrb1] at h9; exact h9) : Calls Try.prog 36 #[.agg #[.string nm, .string T.1.1, .int .i64 T.1.2, .slice ta (lenF T.2) tc], .agg #[.string zz.1.x.1, .int .i64 zz.1.x.2, .slice zz.1.a (lenF zz.1.l) zz.1.c]] W' (PutEnd nm T zz.1.tn rb1 W'))
                      have HP2 := hid fun (W' : World) (h : Below W2.heap.size W2 W') => ((by have h9 := rput_any nm T ta tc zz.2.tn zz.2.a zz.2.c W' (HTO.out.tm.below h) ((HPT2.out zz (.tail _ hzm)).2.below h) HNN.out hok.2 HTS.out.1 HTS.out.2; rw [hrb2] at h9; exact h9) : Calls Try.prog 36 #[.agg #[.string nm, .string T.1.1, .int .i64 T.1.2, .slice ta (lenF T.2) tc], .agg #[.string zz.2.x.1, .int .i64 zz.2.x.2, .slice zz.2.a (lenF zz.2.l) zz.2.c]] W' (PutEnd nm T zz.2.tn rb2 W'))
                      rw [hrb1, hrb2] at HCUT
                      have HRB1 := hid hrb1; have HRB2 := hid hrb2; have HZZ : Hid (∃ h : j < r.length, r[j]'h = zz) := hid ⟨hjr, hzz⟩
                      have hji : (j : Int) < (m : Int) := by omega
                      have hj0 : (0 : Int) ≤ (j : Int) := by omega
                      clear hown hL Qx hok hdr hzm hrb1 hrb2 hzz hjr
                      go_upto_region 21 with fail
                      go_cut [14, 15] (fun xv ov wc => ∃ (X : Nat) (z : Tn) (a' : Option Addr) (c' : Nat), xv = .pointer (some ⟨X, 0, none⟩) ∧ ov = .bool rb1 ∧ XBox wc X z.1 (.slice a' (lenF z.2) c') ∧ wr.heap.size ≤ X ∧ (rb1 = true → z = w1T nm T zz.1.tn ∧ TmO (S0 w.heap.size) wc z.1 a' c' z.2) ∧ Below wr.heap.size wr wc)
                      case first =>
                        go_region_held3 (fun w' => w'.cell? ⟨B, 1, none⟩ = some (.string nm) ∧ w'.cell? ⟨B, 2, none⟩ = some (.string T.1.1) ∧ w'.cell? ⟨B, 3, none⟩ = some (.int .i64 T.1.2) ∧ w'.cell? ⟨B, 4, none⟩ = some (.slice ta (lenF T.2) tc) ∧ w'.cell? ⟨gR, j * 6, none⟩ = some (.string zz.1.x.1) ∧ w'.cell? ⟨gR, j * 6 + 1, none⟩ = some (.int .i64 zz.1.x.2) ∧ w'.cell? ⟨gR, j * 6 + 2, none⟩ = some (.slice zz.1.a (lenF zz.1.l) zz.1.c)) ((first | (go_split_ands; refine ⟨?_, ?_, ?_, ?_, ?_, ?_, ?_⟩ <;> (refine below_cell HB2.out _ _ ?_; assumption)) | (go_split_ands; refine ⟨?_, ?_, ?_, ?_, ?_, ?_, ?_⟩ <;> (refine below_cell (HB2.out.alloc HB2.out.size _) _ _ ?_; assumption)) | (go_split_ands; refine ⟨?_, ?_, ?_, ?_, ?_, ?_, ?_⟩ <;> (refine below_cell (sets_below HB2.out (Nat.le_refl _) _ _ _) _ _ ?_; assumption)) | (go_split_ands; refine ⟨?_, ?_, ?_, ?_, ?_, ?_, ?_⟩ <;> (refine below_cell ((Below.refl _ wr).alloc (Nat.le_refl _) _) _ _ ?_; assumption)) | go_keep | fail)) ((first | (go_at_call 36; refine (HP1.out (World.drew wr) HWX.out.drew).mono ?_; rintro e w2 ⟨z, a', c', rfl, hT2, hb2⟩; have HT2 : Hid (rb1 = true → z = w1T nm T zz.1.tn ∧ OwnTm false (fun q => wr.heap.size ≤ q) w2 z.1 a' c' z.2) := hid hT2; have HB2 : Hid (Below wr.heap.size wr w2) := hid (((Below.refl _ wr).drew).trans hb2); clear hT2 hb2) | (go_at_call 36; refine (HP1.out (World.drew (World.alloc wr (.cells #[.string ⟨#[]⟩, .int .i64 0, .slice none 0 0] 26))) (HWX.out.alloc HWX.out.size _).drew).mono ?_; rintro e w2 ⟨z, a', c', rfl, hT2, hb2⟩; have HT2 : Hid (rb1 = true → z = w1T nm T zz.1.tn ∧ OwnTm false (fun q => wr.heap.size < q) w2 z.1 a' c' z.2) := hid (fun h => ⟨(hT2 h).1, (hT2 h).2.mono (fun q _ hq => by rw [show (World.drew (World.alloc wr (.cells #[.string ⟨#[]⟩, .int .i64 0, .slice none 0 0] 26))).heap.size = wr.heap.size + 1 from World.size_alloc _ _] at hq; omega)⟩); have HB2 : Hid (Below wr.heap.size wr w2) := hid ((((Below.refl _ wr).alloc (Nat.le_refl _) _).drew).trans (hb2.mono (by show _ ≤ (wr.alloc _).heap.size; rw [World.size_alloc]; omega))); have HX2 : Hid (XBox w2 wr.heap.size (⟨#[]⟩, 0) (.slice none 0 0)) := hid (XBox.below (W := World.drew (World.alloc wr (.cells #[.string ⟨#[]⟩, .int .i64 0, .slice none 0 0] 26))) (heap_alloc_new wr _) hb2); have z0 := HX2.out.c0; have z1 := HX2.out.c1; have z2 := HX2.out.c2; have zf0 := HX2.out.f (k := 0); have zf1 := HX2.out.f (k := 1); have zf2 := HX2.out.f (k := 2); clear hT2 hb2) | fail))
                        all_goals (go_wp2_with fail; go_meet)
                        all_goals first
                          | exact ⟨w2.heap.size, z, a', c', rfl, rfl, heap_alloc_new w2 _, HB2.out.size, (fun h => ⟨(HT2.out h).1, own_O _ ((HT2.out h).2.below ((Below.refl _ _).alloc (Nat.le_refl _) _))⟩), HB2.out.alloc HB2.out.size _⟩
                          | exact ⟨wr.heap.size, z, a', c', rfl, rfl, HX2.out.all (x := z.1) _, Nat.le_refl _, (fun h => ⟨(HT2.out h).1, own_O _ ((HT2.out h).2.keep (fun q hq _ => sets_far (by omega) _ _ _))⟩), sets_below HB2.out (Nat.le_refl _) _ _ _⟩
                      case rest =>
                      obtain ⟨X1, z1, a1, c1', hx1, ho1, hX1, hXl1, hT1, hb1⟩ := hcut
                      subst hx1 ho1
                      rename World => wy
                      have HX1 := hid hX1; have HXL1 := hid hXl1; have HT1 := hid hT1; have HBY := hid hb1
                      have HWY := hid (HWX.out.trans (hb1.mono HWX.out.size))
                      have m3 := below_cell hb1 _ _ m3; have m4 := below_cell hb1 _ _ m4; have m5 := below_cell hb1 _ _ m5
                      have e1 := below_cell hb1 _ _ e1; have e2 := below_cell hb1 _ _ e2; have e3 := below_cell hb1 _ _ e3; have e4 := below_cell hb1 _ _ e4
                      clear hX1 hXl1 hT1 hb1 m0 m1 m2 HP1
                      go_upto_region 22 with fail
                      go_cut [16, 17] (fun xv ov wc => ∃ (X : Nat) (z : Tn) (a' : Option Addr) (c' : Nat), xv = .pointer (some ⟨X, 0, none⟩) ∧ ov = .bool rb2 ∧ XBox wc X z.1 (.slice a' (lenF z.2) c') ∧ wy.heap.size ≤ X ∧ (rb2 = true → z = w1T nm T zz.2.tn ∧ TmO (S0 w.heap.size) wc z.1 a' c' z.2) ∧ Below wy.heap.size wy wc)
                      case first =>
                        go_region_held3 (fun w' => w'.cell? ⟨B, 1, none⟩ = some (.string nm) ∧ w'.cell? ⟨B, 2, none⟩ = some (.string T.1.1) ∧ w'.cell? ⟨B, 3, none⟩ = some (.int .i64 T.1.2) ∧ w'.cell? ⟨B, 4, none⟩ = some (.slice ta (lenF T.2) tc) ∧ w'.cell? ⟨gR, j * 6 + 3, none⟩ = some (.string zz.2.x.1) ∧ w'.cell? ⟨gR, j * 6 + 4, none⟩ = some (.int .i64 zz.2.x.2) ∧ w'.cell? ⟨gR, j * 6 + 5, none⟩ = some (.slice zz.2.a (lenF zz.2.l) zz.2.c)) ((first | (go_split_ands; refine ⟨?_, ?_, ?_, ?_, ?_, ?_, ?_⟩ <;> (refine below_cell HB2.out _ _ ?_; assumption)) | (go_split_ands; refine ⟨?_, ?_, ?_, ?_, ?_, ?_, ?_⟩ <;> (refine below_cell (HB2.out.alloc HB2.out.size _) _ _ ?_; assumption)) | (go_split_ands; refine ⟨?_, ?_, ?_, ?_, ?_, ?_, ?_⟩ <;> (refine below_cell (sets_below HB2.out (Nat.le_refl _) _ _ _) _ _ ?_; assumption)) | (go_split_ands; refine ⟨?_, ?_, ?_, ?_, ?_, ?_, ?_⟩ <;> (refine below_cell ((Below.refl _ wy).alloc (Nat.le_refl _) _) _ _ ?_; assumption)) | go_keep | fail)) ((first | (go_at_call 36; refine (HP2.out (World.drew wy) HWY.out.drew).mono ?_; rintro e w2 ⟨z, a', c', rfl, hT2, hb2⟩; have HT2 : Hid (rb2 = true → z = w1T nm T zz.2.tn ∧ OwnTm false (fun q => wy.heap.size ≤ q) w2 z.1 a' c' z.2) := hid hT2; have HB2 : Hid (Below wy.heap.size wy w2) := hid (((Below.refl _ wy).drew).trans hb2); clear hT2 hb2) | (go_at_call 36; refine (HP2.out (World.drew (World.alloc wy (.cells #[.string ⟨#[]⟩, .int .i64 0, .slice none 0 0] 26))) (HWY.out.alloc HWY.out.size _).drew).mono ?_; rintro e w2 ⟨z, a', c', rfl, hT2, hb2⟩; have HT2 : Hid (rb2 = true → z = w1T nm T zz.2.tn ∧ OwnTm false (fun q => wy.heap.size < q) w2 z.1 a' c' z.2) := hid (fun h => ⟨(hT2 h).1, (hT2 h).2.mono (fun q _ hq => by rw [show (World.drew (World.alloc wy (.cells #[.string ⟨#[]⟩, .int .i64 0, .slice none 0 0] 26))).heap.size = wy.heap.size + 1 from World.size_alloc _ _] at hq; omega)⟩); have HB2 : Hid (Below wy.heap.size wy w2) := hid ((((Below.refl _ wy).alloc (Nat.le_refl _) _).drew).trans (hb2.mono (by show _ ≤ (wy.alloc _).heap.size; rw [World.size_alloc]; omega))); have HX2 : Hid (XBox w2 wy.heap.size (⟨#[]⟩, 0) (.slice none 0 0)) := hid (XBox.below (W := World.drew (World.alloc wy (.cells #[.string ⟨#[]⟩, .int .i64 0, .slice none 0 0] 26))) (heap_alloc_new wy _) hb2); have z0 := HX2.out.c0; have z1 := HX2.out.c1; have z2 := HX2.out.c2; have zf0 := HX2.out.f (k := 0); have zf1 := HX2.out.f (k := 1); have zf2 := HX2.out.f (k := 2); clear hT2 hb2) | fail))
                        all_goals (go_wp2_with fail; go_meet)
                        all_goals first
                          | exact ⟨w2.heap.size, z, a', c', rfl, rfl, heap_alloc_new w2 _, HB2.out.size, (fun h => ⟨(HT2.out h).1, own_O _ ((HT2.out h).2.below ((Below.refl _ _).alloc (Nat.le_refl _) _))⟩), HB2.out.alloc HB2.out.size _⟩
                          | exact ⟨wy.heap.size, z, a', c', rfl, rfl, HX2.out.all (x := z.1) _, Nat.le_refl _, (fun h => ⟨(HT2.out h).1, own_O _ ((HT2.out h).2.keep (fun q hq _ => sets_far (by omega) _ _ _))⟩), sets_below HB2.out (Nat.le_refl _) _ _ _⟩
                      case rest =>
                      obtain ⟨X2, z2, a2, c2', hx2, ho2, hX2, hXl2, hT2, hb2⟩ := hcut
                      subst hx2 ho2
                      rename World => wz
                      have HBZ := hid (HBY.out.trans (hb2.mono HBY.out.size))
                      have HX2 := hid hX2; have HT2 := hid hT2
                      have HX1z := hid (HX1.out.below hb2)
                      have HBYZ := hid hb2
                      have HLZ := hid (HL2.out.trans ((HWY.out.trans (hb2.mono HWY.out.size)).mono HL2.out.size))
                      clear hX2 hXl2 hT2 hb2 e1 e2 e3 e4 m3 m4 m5 HP2
                      cases rb1 with
                      | false =>
                        go_wp2_with fail
                        refine bodyPost_ret (results_tmp3 rfl _ _ _) rfl ?_
                        exact ⟨HLZ.out, .inr ⟨HALL.out, f0, R, HFR.out, .inr (.inl ⟨HCUT.out rfl, rfl⟩)⟩⟩
                      | true =>
                        cases rb2 with
                        | false =>
                          go_wp2_with fail
                          refine bodyPost_ret (results_tmp3 rfl _ _ _) rfl ?_
                          exact ⟨HLZ.out, .inr ⟨HALL.out, f0, R, HFR.out, .inr (.inl ⟨HCUT.out rfl, rfl⟩)⟩⟩
                        | true =>
                          obtain ⟨hz1, ht1⟩ := HT1.out rfl
                          obtain ⟨hz2, ht2⟩ := HT2.out rfl
                          obtain ⟨hjr, hzz⟩ := HZZ.out
                          have hnx := L1.step (W' := wz) (k1 := ⟨z1.1, z1.2, a1, c1'⟩) (k2 := ⟨z2.1, z2.2, a2, c2'⟩) HLL.out HL2.out.size hjr hzz HBZ.out hz1 hz2 (tmO_below ht1 HBYZ.out) ht2 HRB1.out HRB2.out
                          have HNX := hid hnx
                          have hownz := owns_below HOWN.out HBZ.out
                          obtain ⟨n0, n1, n2, n3, n4, n5⟩ := mid_cells hownz HLL.out.len
                          have fz0 := owns_fz hownz (j * 6); have fz1 := owns_fz hownz (j * 6 + 1); have fz2 := owns_fz hownz (j * 6 + 2); have fz3 := owns_fz hownz (j * 6 + 3); have fz4 := owns_fz hownz (j * 6 + 4); have fz5 := owns_fz hownz (j * 6 + 5)
                          have p0 := HX1z.out.c0; have p1 := HX1z.out.c1; have p2 := HX1z.out.c2
                          have q0 := HX2.out.c0; have q1 := HX2.out.c1; have q2 := HX2.out.c2
                          clear hz1 ht1 hz2 ht2 hnx hownz hzz hjr
                          go_wp2_with fail
                          go_roundw
                          case rel => exact ⟨j + 1, _, by go_num, by omega, HNX.out⟩
                          case measure => simp [intOf]; omega
                    · obtain rfl : j = m := by omega
                      clear hL
                      go_wp2_with fail
                      go_meet
                      exact ⟨D, HLL.out⟩
              case rest =>
              obtain ⟨D1, hD1⟩ := hcut
              rename World => w4
              have HD1 := hid hD1
              clear hD1
              obtain ⟨ba, bc, hbv, hbl, hbz, _⟩ := bd_form HBR2.out rfl
              subst hbv
              have HBR4 := hid (owns_below HBR2.out HD1.out.low)
              have HBT4 := hid (fun k hk => tmO_below (HBT2.out k hk) HD1.out.low)
              have HBX4 := hid (HBX.out.below HD1.out.low)
              have HTT4 := hid (tmO_below (own_O w.heap.size HTO.out) HD1.out.low)
              have HL4 := hid (HL2.out.trans (HD1.out.low.mono HL2.out.size))
              have hkl : ks.length ≤ 1048576 := hlen.2
              clear hbl hbz
              go_upto_block 7 with fail
              go_cut [18] (fun _ wc => ∃ D, D.length = ks.length ∧ D.map btn = putB nm T (ks.map btn) ∧ (∀ b ∈ D, b.1.size ≤ maxLen) ∧ (∀ b ∈ D, TmO (S0 w.heap.size) wc b.2.x b.2.a b.2.c b.2.l) ∧ wc.ownsRow w.heap.size 33 4 (.slice ba ks.length bc) ks.length (bkAll D) ∧ ((ks.map btn).all fun b => roomT nm T b.2) = true ∧ (∀ q, q < w4.heap.size → (Value.slice ba ks.length bc).ownBlock ≠ some q → wc.heap[q]? = w4.heap[q]?) ∧ w4.heap.size ≤ wc.heap.size ∧ Below w.heap.size w wc)
              case first =>
                rcases HBR4.out.2 with ⟨hv, hm9⟩ | ⟨gB, cap9, cur9, hv, hgb, hcg, hc9, hc8, _, _⟩
                · obtain ⟨rfl, hm7, rfl⟩ : ba = none ∧ ks.length = 0 ∧ bc = 0 := by simpa using hv
                  have HK9 : Hid (ks = []) := hid (List.eq_nil_of_length_eq_zero hm9)
                  have hm8 : ¬ (0 : Int) < (ks.length : Int) := by omega
                  have HKL := hid hkl
                  clear hv hm9 hm7 hkl hlen
                  go_wp2_with fail
                  go_loopw [18, 19, 20] (fun iv _ _ wr => iv = .int .i64 0 ∧ wr = w4) (fun _ _ _ _ => 0)
                  case atStart => exact ⟨rfl, rfl⟩
                  case round =>
                    obtain ⟨rfl, rfl⟩ := hrel
                    go_wp2_with fail
                    go_meet
                    exact ⟨[], by rw [HK9.out], by rw [HK9.out]; rfl, fun b hb => by simp at hb, fun b hb => by simp at hb, by have h := HBR4.out; rw [HK9.out] at h ⊢; exact h, by rw [HK9.out]; rfl, fun _ _ _ => rfl, Nat.le_refl _, HL4.out⟩
                · obtain ⟨rfl, rfl⟩ : ba = some ⟨gB, 0, none⟩ ∧ bc = cap9 := by simpa using hv
                  have hcm : bc ≤ 9223372036854775807 := hc8
                  have HGB := hid hgb; have HCG := hid hcg
                  clear hv hgb hcg
                  go_wp2_with fail
                  go_loopw [18, 19, 20] (fun iv _ _ wr => ∃ (j : Nat) (D : List Bk), iv = .int .i64 j ∧ j ≤ ks.length ∧ L2 w w4 gB bc nm T ks j D wr) (fun iv _ _ _ => ks.length - (intOf iv).toNat)
                  case atStart => exact ⟨0, [], rfl, Nat.zero_le _, L2.zero HBR4.out HBT4.out HL4.out⟩
                  case round =>
                    obtain ⟨j, D, rfl, hj, hL⟩ := hrel
                    have HLL := hid hL
                    by_cases hlt : j < ks.length
                    · obtain ⟨zz, hzz⟩ : ∃ zz, ks[j] = zz := ⟨_, rfl⟩
                      have hzm : zz ∈ ks := by rw [← hzz]; exact List.getElem_mem hlt
                      have hdr : ks.drop j = zz :: ks.drop (j + 1) := by rw [List.drop_eq_getElem_cons hlt, hzz]
                      have hown := hL.own
                      rw [hdr] at hown
                      obtain ⟨m0, m1, m2⟩ := bmid_cells hown hL.len
                      have HOWN := hid hown
                      have hBg : B ≠ gB := fun e => by
                        have h1 : w4.heap[B]? = _ := HBX4.out
                        rw [e, HCG.out] at h1
                        simp at h1
                      have Qx : Box wr B 36 _ := (hL.keep B HBX4.out.lt hBg).trans HBX4.out
                      have e1 : wr.cell? ⟨B, 1, none⟩ = some (.string nm) := Qx.c 1
                      have e2 : wr.cell? ⟨B, 2, none⟩ = some (.string T.1.1) := Qx.c 2
                      have e3 : wr.cell? ⟨B, 3, none⟩ = some (.int .i64 T.1.2) := Qx.c 3
                      have e4 : wr.cell? ⟨B, 4, none⟩ = some (.slice ta (lenF T.2) tc) := Qx.c 4
                      have hTw := tmO_tm (keep_tm HCG.out (by decide) HGB.out hL.keep HTT4.out)
                      have hzt := tmO_tm (hL.tm zz (List.mem_append_right _ (by rw [hdr]; exact .head _)))
                      have hok : okT zz.2.tn := (HOKS.out.2 (btn zz) (List.mem_map_of_mem hzm)).1
                      have HCUT : Hid (roomT nm T zz.2.tn = false → R = (2, [])) := hid (fun h => HGRW.out (by
                        unfold roomS
                        rw [all_cut (l := ks.map btn) (j := j) (by rw [List.length_map]; exact hlt) (by rw [List.getElem_map, hzz]; exact h), Bool.and_false]))
                      obtain ⟨rb1, hrb1⟩ : ∃ b, roomT nm T zz.2.tn = b := ⟨_, rfl⟩
                      have HP1 := hid fun (W' : World) (h : Below wr.heap.size wr W') => ((by have h9 := rput_any nm T ta tc zz.2.tn zz.2.a zz.2.c W' (hTw.below h) (hzt.below h) HNN.out hok HTS.out.1 HTS.out.2; rw [hrb1] at h9; exact h9) : Calls Try.prog 36 #[.agg #[.string nm, .string T.1.1, .int .i64 T.1.2, .slice ta (lenF T.2) tc], .agg #[.string zz.2.x.1, .int .i64 zz.2.x.2, .slice zz.2.a (lenF zz.2.l) zz.2.c]] W' (PutEnd nm T zz.2.tn rb1 W'))
                      rw [hrb1] at HCUT
                      have HRB1 := hid hrb1
                      have HZZ : Hid (∃ h : j < ks.length, ks[j]'h = zz) := hid ⟨hlt, hzz⟩
                      have hji : (j : Int) < (ks.length : Int) := by omega
                      have hj0 : (0 : Int) ≤ (j : Int) := by omega
                      clear hown hL Qx hok hdr hzm hrb1 hzz hTw hzt hBg
                      go_upto_region 29 with fail
                      go_cut [19, 20] (fun xv ov wc => ∃ (X : Nat) (z : Tn) (a' : Option Addr) (c' : Nat), xv = .pointer (some ⟨X, 0, none⟩) ∧ ov = .bool rb1 ∧ XBox wc X z.1 (.slice a' (lenF z.2) c') ∧ wr.heap.size ≤ X ∧ (rb1 = true → z = w1T nm T zz.2.tn ∧ TmO (S0 w.heap.size) wc z.1 a' c' z.2) ∧ Below wr.heap.size wr wc)
                      case first =>
                        go_region_held3 (fun w' => w'.cell? ⟨B, 1, none⟩ = some (.string nm) ∧ w'.cell? ⟨B, 2, none⟩ = some (.string T.1.1) ∧ w'.cell? ⟨B, 3, none⟩ = some (.int .i64 T.1.2) ∧ w'.cell? ⟨B, 4, none⟩ = some (.slice ta (lenF T.2) tc) ∧ w'.cell? ⟨gB, j * 4 + 1, none⟩ = some (.string zz.2.x.1) ∧ w'.cell? ⟨gB, j * 4 + 2, none⟩ = some (.int .i64 zz.2.x.2) ∧ w'.cell? ⟨gB, j * 4 + 3, none⟩ = some (.slice zz.2.a (lenF zz.2.l) zz.2.c)) ((first | (go_split_ands; refine ⟨?_, ?_, ?_, ?_, ?_, ?_, ?_⟩ <;> (refine below_cell HB2.out _ _ ?_; assumption)) | (go_split_ands; refine ⟨?_, ?_, ?_, ?_, ?_, ?_, ?_⟩ <;> (refine below_cell (HB2.out.alloc HB2.out.size _) _ _ ?_; assumption)) | (go_split_ands; refine ⟨?_, ?_, ?_, ?_, ?_, ?_, ?_⟩ <;> (refine below_cell (sets_below HB2.out (Nat.le_refl _) _ _ _) _ _ ?_; assumption)) | (go_split_ands; refine ⟨?_, ?_, ?_, ?_, ?_, ?_, ?_⟩ <;> (refine below_cell ((Below.refl _ wr).alloc (Nat.le_refl _) _) _ _ ?_; assumption)) | go_keep | fail)) ((first | (go_at_call 36; refine (HP1.out (World.drew wr) (Below.refl _ wr).drew).mono ?_; rintro e w2 ⟨z, a', c', rfl, hT2, hb2⟩; have HT2 : Hid (rb1 = true → z = w1T nm T zz.2.tn ∧ OwnTm false (fun q => wr.heap.size ≤ q) w2 z.1 a' c' z.2) := hid hT2; have HB2 : Hid (Below wr.heap.size wr w2) := hid (((Below.refl _ wr).drew).trans hb2); clear hT2 hb2) | (go_at_call 36; refine (HP1.out (World.drew (World.alloc wr (.cells #[.string ⟨#[]⟩, .int .i64 0, .slice none 0 0] 26))) ((Below.refl _ wr).alloc (Nat.le_refl _) _).drew).mono ?_; rintro e w2 ⟨z, a', c', rfl, hT2, hb2⟩; have HT2 : Hid (rb1 = true → z = w1T nm T zz.2.tn ∧ OwnTm false (fun q => wr.heap.size < q) w2 z.1 a' c' z.2) := hid (fun h => ⟨(hT2 h).1, (hT2 h).2.mono (fun q _ hq => by rw [show (World.drew (World.alloc wr (.cells #[.string ⟨#[]⟩, .int .i64 0, .slice none 0 0] 26))).heap.size = wr.heap.size + 1 from World.size_alloc _ _] at hq; omega)⟩); have HB2 : Hid (Below wr.heap.size wr w2) := hid ((((Below.refl _ wr).alloc (Nat.le_refl _) _).drew).trans (hb2.mono (by show _ ≤ (wr.alloc _).heap.size; rw [World.size_alloc]; omega))); have HX2 : Hid (XBox w2 wr.heap.size (⟨#[]⟩, 0) (.slice none 0 0)) := hid (XBox.below (W := World.drew (World.alloc wr (.cells #[.string ⟨#[]⟩, .int .i64 0, .slice none 0 0] 26))) (heap_alloc_new wr _) hb2); have z0 := HX2.out.c0; have z1 := HX2.out.c1; have z2 := HX2.out.c2; have zf0 := HX2.out.f (k := 0); have zf1 := HX2.out.f (k := 1); have zf2 := HX2.out.f (k := 2); clear hT2 hb2) | fail))
                        all_goals (go_wp2_with fail; go_meet)
                        all_goals first
                          | exact ⟨w2.heap.size, z, a', c', rfl, rfl, heap_alloc_new w2 _, HB2.out.size, (fun h => ⟨(HT2.out h).1, own_O _ ((HT2.out h).2.below ((Below.refl _ _).alloc (Nat.le_refl _) _))⟩), HB2.out.alloc HB2.out.size _⟩
                          | exact ⟨wr.heap.size, z, a', c', rfl, rfl, HX2.out.all (x := z.1) _, Nat.le_refl _, (fun h => ⟨(HT2.out h).1, own_O _ ((HT2.out h).2.keep (fun q hq _ => sets_far (by omega) _ _ _))⟩), sets_below HB2.out (Nat.le_refl _) _ _ _⟩
                      case rest =>
                      obtain ⟨X1, z1, a1, c1', hx1, ho1, hX1, hXl1, hT1, hb1⟩ := hcut
                      subst hx1 ho1
                      rename World => wy
                      have HX1 := hid hX1; have HT1 := hid hT1; have HBY := hid hb1
                      have HLZ := hid (HLL.out.low.trans (hb1.mono HLL.out.low.size))
                      clear hX1 hXl1 hT1 hb1 e1 e2 e3 e4 m0 m1 m2 HP1
                      cases rb1 with
                      | false =>
                        go_wp2_with fail
                        refine bodyPost_ret (results_tmp3 rfl _ _ _) rfl ?_
                        exact ⟨HLZ.out, .inr ⟨HALL.out, f0, R, HFR.out, .inr (.inl ⟨HCUT.out (by first | exact rfl | exact trivial), rfl⟩)⟩⟩
                      | true =>
                        obtain ⟨hz1, ht1⟩ := HT1.out rfl
                        obtain ⟨hjr, hzz⟩ := HZZ.out
                        have hnx := L2.step (W' := wy) (k := ⟨z1.1, z1.2, a1, c1'⟩) HLL.out HBS.out hjr hzz HBY.out hz1 ht1 HRB1.out
                        have HNX := hid hnx
                        have hownz := owns_below HOWN.out HBY.out
                        obtain ⟨n1, n2, n3⟩ := bmid_cells hownz HLL.out.len
                        have fz1 := owns_fz hownz (j * 4 + 1); have fz2 := owns_fz hownz (j * 4 + 2); have fz3 := owns_fz hownz (j * 4 + 3)
                        have p0 := HX1.out.c0; have p1 := HX1.out.c1; have p2 := HX1.out.c2
                        clear hz1 ht1 hnx hownz hzz hjr
                        go_wp2_with fail
                        go_roundw
                        case rel => exact ⟨j + 1, _, by go_num, by omega, HNX.out⟩
                        case measure => simp [intOf]; omega
                    · obtain rfl : j = ks.length := by omega
                      clear hL
                      go_wp2_with fail
                      go_meet
                      have hl := HLL.out
                      exact ⟨D, hl.len, by have h := hl.is; rw [List.take_of_length_le (Nat.le_refl _)] at h; exact h, hl.nms, fun b hb => hl.tm b (List.mem_append_left _ hb), by have h := hl.own; rw [List.drop_length, List.append_nil] at h; exact h, by have h := hl.room; rw [List.take_of_length_le (Nat.le_refl _)] at h; exact h, fun q hq hn => hl.keep q hq (fun e => hn (by rw [e]; rfl)), hl.size, hl.low⟩
              case rest =>
              obtain ⟨D2, d1', d2, d3, d4, d5, d6, d7, d8, d9⟩ := hcut
              rename World => w5
              have hne28 : ∀ q, (Value.slice a3 m c3).ownBlock = some q → (Value.slice ba ks.length bc).ownBlock ≠ some q := fun q hq => row_ne HD1.out.own HBR4.out (by decide) hq
              have hBk : w5.heap[B]? = w4.heap[B]? := d7 B HBX4.out.lt (fun e => by
                obtain ⟨_, cur, hc⟩ := owns_cells HBR4.out e
                have h1 : w4.heap[B]? = _ := HBX4.out
                rw [hc] at h1
                simp at h1)
              have HBX5 : Hid (Box w5 B 36 _) := hid (hBk.trans HBX4.out)
              have hrow5 := owns_block HD1.out.own (fun q hq => d7 q (by obtain ⟨_, cur, hc⟩ := owns_cells HD1.out.own hq; exact (Array.getElem?_eq_some_iff.1 hc).1) (hne28 q hq))
              have hmv : ∀ {x : ByteArray × Int} {a : Option Addr} {c : Nat} {l : Fo}, TmO (S0 w.heap.size) w4 x a c l → TmO (S0 w.heap.size) w5 x a c l := fun h => by
                rcases hob : (Value.slice ba ks.length bc).ownBlock with _ | g
                · exact tmO_move h fun b o ho hs => ⟨(d7 b (Array.getElem?_eq_some_iff.1 ho).1 (by rw [hob]; simp)).trans ho, hs⟩
                · obtain ⟨hg, cur, hc⟩ := owns_cells HBR4.out hob
                  exact keep_tm hc (by decide) hg (fun q hq hn => d7 q hq (by rw [hob]; simpa using fun e => hn e.symm)) h
              have HT5 := hid (hmv HTT4.out)
              have HR5 := hid hrow5
              have HD5 : Hid (∀ z ∈ D1, TmO (S0 w.heap.size) w5 z.1.x z.1.a z.1.c z.1.l ∧ TmO (S0 w.heap.size) w5 z.2.x z.2.a z.2.c z.2.l) := hid (fun z hz => ⟨hmv (HD1.out.tm z hz).1, hmv (HD1.out.tm z hz).2⟩)
              have hwith := with_any w.heap.size (.slice ba ks.length bc) D2 nm T.1 T.2 ta tc w5 (by rw [d1']; exact d5) (by rw [d1']; exact hkl)
              have HWITH := hid hwith
              have D1H := hid d1'; have D2H := hid d2; have D3H := hid d3; have D4H := hid d4; have D6H := hid d6; have D9H := hid d9
              have e1 : w5.cell? ⟨B, 1, none⟩ = some (.string nm) := HBX5.out.c 1
              have e2 : w5.cell? ⟨B, 2, none⟩ = some (.string T.1.1) := HBX5.out.c 2
              have e3 : w5.cell? ⟨B, 3, none⟩ = some (.int .i64 T.1.2) := HBX5.out.c 3
              have e4 : w5.cell? ⟨B, 4, none⟩ = some (.slice ta (lenF T.2) tc) := HBX5.out.c 4
              clear hne28 hBk hrow5 hmv hwith d1' d2 d3 d4 d5 d6 d7 d8 d9
              go_wp2_with fail
              refine HWITH.out.mono ?_
              rintro e w6 ⟨v6, jj, rfl, hjj, hj1, hj2, ho6, hb6⟩
              have hroom : roomS nm T (r.map tn2) (ks.map btn) = true := by
                unfold roomS
                have h := HD1.out.room
                rw [List.take_of_length_le (by rw [HM.out]; exact Nat.le_refl _)] at h
                rw [h, D6H.out]
                rfl
              have hD2b : putB nm T (ks.map btn) = D2.map btn := D2H.out.symm
              have hni := HSTN.out hroom jj (by rw [List.length_map, ← D1H.out]; exact hjj) (fun z hz => by
                  rw [hD2b, ← List.map_drop] at hz
                  obtain ⟨b, hb, rfl⟩ := List.mem_map.1 hz
                  exact hj1 b hb) (fun z h0 hz => by
                  rw [hD2b, List.getElem?_map] at hz
                  obtain ⟨b, hb, rfl⟩ := Option.map_eq_some_iff.1 hz
                  exact hj2 b h0 hb)
              obtain ⟨fg, hfg, hni⟩ := hni
              have hD1l : D1.length = m := HD1.out.len
              have hof := HR5.out
              rw [List.drop_of_length_le (by rw [HM.out]; exact Nat.le_refl _), List.append_nil] at hof
              obtain ⟨a9, c9, hv9, hl9, _, hr9⟩ := eq_form hof hD1l.symm
              obtain ⟨rfl, rfl⟩ : a3 = a9 ∧ c3 = c9 := by simpa using hv9
              have hnew : RSt sg R w fg (.slice a3 m c3) v6 w6 := ⟨D1, a3, c3, D2.take jj ++ [(nm, ⟨T.1, T.2, ta, tc⟩)] ++ D2.drop jj, by rw [hD1l], by rw [hD1l]; exact hr9.below hb6, by rw [hD1l]; exact hl9, fun z hz => ⟨(tmO_tm (HD5.out z hz).1).below hb6, (tmO_tm (HD5.out z hz).2).below hb6⟩, owns_base ho6 D9H.out.size, fun b hb => by
                  rcases List.mem_append.1 hb with hb | hb
                  · rcases List.mem_append.1 hb with hb | hb
                    · exact tmO_below (D4H.out b (List.mem_of_mem_take hb)) hb6
                    · rw [List.mem_singleton.1 hb]; exact tmO_below HT5.out hb6
                  · exact tmO_below (D4H.out b (List.mem_of_mem_drop hb)) hb6, fun b hb => by
                  rcases List.mem_append.1 hb with hb | hb
                  · rcases List.mem_append.1 hb with hb | hb
                    · exact D3H.out b (List.mem_of_mem_take hb)
                    · rw [List.mem_singleton.1 hb]; exact HTS.out.2
                  · exact D3H.out b (List.mem_of_mem_drop hb), by
                  have h8 := HD1.out.is
                  rw [List.take_of_length_le (by rw [HM.out]; exact Nat.le_refl _)] at h8
                  rw [h8, List.map_append, List.map_append, List.map_take, List.map_drop, ← hD2b]
                  exact hni, D9H.out.trans (hb6.mono D9H.out.size)⟩
              have HNEW := hid hnew; have HFG := hid hfg
              clear hni hnew hfg hv9 hl9 hr9 hof hD1l hroom hD2b hjj hj1 hj2 ho6 hb6 e1 e2 e3 e4
              go_wp2_with fail
              go_roundw
              case rel => exact ⟨fg, HNEW.out⟩
              case measure => exact Nat.lt_of_le_of_lt (HMU.out _ _ _ fg HNEW.out).2 (by have h := HFG.out; simp only [List.length_cons, HM.out] at h; exact h)
            · skip
              have hact : (oneP sg p.1.tn p.2.tn).act = 4 := by rw [hone]; exact ha
              have HNX := hid (HINV.out.parts ha)
              have HONE4 := hid hone
              have HPOS := hid (parts_pos h0 ha)
              clear h0 ha hone
              have hbx := HBX.out
              have hwy := HWN.out (by rw [hact]; decide)
              clear HBX HWN HW3
              rw [HONE4.out] at hwy hact
              obtain ⟨bv1, x1, a1, n1, cc1, la1, lc1, sy1, kk, hv1e, hkk, hkt, hkc, hkl⟩ := wy_parts hwy
              have hpos := HPOS.out
              rcases hkc with hkc | ⟨gp, hla, hkc⟩
              · exact absurd hkc hpos
              subst hla
              have hkn : kk.length = 2 * (lookP sg p.1.tn p.2.tn).ls.length := by have := congrArg List.length hkk; rw [List.length_map, flatL_len] at this; exact this
              obtain ⟨Pt, hPt1, hPt2⟩ := unflat _ kk hkn
              subst hPt1
              have hmap : Pt.map tn2 = (lookP sg p.1.tn p.2.tn).ls := flatL_inj (by rw [← flatK_tn]; exact hkk)
              have HMAP := hid hmap
              have hrp : RowE W2 (some ⟨gp, 0, none⟩) (lookP sg p.1.tn p.2.tn).ls.length Pt := ⟨hPt2.symm, fun j u hu => ⟨gp, 0, rfl, by rw [Nat.zero_add]; exact hkc j u hu⟩⟩
              obtain ⟨M2, hM2⟩ : ∃ M2, (lookP sg p.1.tn p.2.tn).ls.length = M2 := ⟨_, rfl⟩
              have hM2b : M2 + m ≤ 1073741823 := by
                obtain ⟨fg, _, hni⟩ := HNX.out
                have h9 : ((lookP sg p.1.tn p.2.tn).ls ++ r.map tn2).length ≤ 1073741823 := hni.len.1
                rw [List.length_append, List.length_map, hM2, HM.out] at h9
                exact h9
              rw [hM2] at hrp hv1e hPt2 hkl
              rw [hact] at hv1e
              simp only [Value.agg.injEq] at hv1e
              subst hv1e
              unfold wayC at hbx
              have HQ3 := hid (hbx.below HB3.out)
              have y0 := HQ3.out.c 0
              have y5 : (w3.alloc (.cells #[] 28)).cell? ⟨B, 5, none⟩ = some (.slice (some ⟨gp, 0, none⟩) M2 lc1) := (HQ3.out.below (alloc_below0 w3 _)).c 5
              have HRP := hid hrp; have HKT := hid hkt; have HP2 := hid hPt2
              clear hact hbx hwy hrp hkt hkc hkk hkn hmap hPt2 hM2 hpos
              go_wp2_with (at_builtin; first
                | (refine wpList_append_eqs rfl (.tmp 65) (.tmp 67) rfl w3.heap.size _ [] rfl (row_empty28 w3) (some ⟨gp, 0, none⟩) M2 lc1 Pt rfl ((HRP.out.below HB3.out).below (alloc_below0 w3 (.cells #[] 28))) (fun e => by cases e) (by simp; omega) (by simp) ?_; intro v4 w4 hown4 hgrow4; simp only [List.nil_append] at hown4; have HB4 := hid ((alloc_below0 w3 (.cells #[] 28)).grown hgrow4 (by simp) (fun k e => by cases e; exact Nat.le_refl _)); have HO4 := hid hown4; clear hown4 hgrow4)
                | (refine wpList_append_eqs rfl (.tmp 68) (.tmp 69) rfl w3.heap.size v4 Pt rfl HO4.out a3 m c3 r rfl (HR3.out.below HB4.out) HZ3.out (by rw [HP2.out]; omega) HB4.out.size ?_; intro v5 w5 hown5 hgrow5; obtain ⟨a5, c5, hv5, hl5, hz5, hr5⟩ := eq_form hown5 rfl; rw [hv5] at hown5 ⊢; have HV5 := hid hl5; have HR5 := hid hr5; have HB5 := hid (HB4.out.grown hgrow5 HB4.out.size (fun k e => (owns_cells HO4.out e).1)); clear hown5 hgrow5 hv5 hl5 hz5 hr5))
              obtain ⟨fg, hfg, hni⟩ := HNX.out
              have HB6 := hid (HB3.out.trans (HB5.out.mono HB3.out.size))
              have hnew : RSt sg R w fg (.slice a5 (Pt.length + r.length) c5) _ w5 := ⟨Pt ++ r, a5, c5, ks, by rw [List.length_append], HR5.out, HV5.out, fun z hz => by
                  rcases List.mem_append.1 hz with hz | hz
                  · exact ⟨(HKT.out z.1 (flatK_mem hz).1).below HB6.out, (HKT.out z.2 (flatK_mem hz).2).below HB6.out⟩
                  · exact ⟨(HPT2.out z (.tail _ hz)).1.below HB6.out, (HPT2.out z (.tail _ hz)).2.below HB6.out⟩, owns_below HBR2.out HB6.out, fun k hk => tmO_below (HBT2.out k hk) HB6.out, HBS.out, by rw [List.map_append, HMAP.out]; exact hni, HL2.out.trans (HB6.out.mono HL2.out.size)⟩
              have HNEW := hid hnew; have HFG := hid hfg
              clear hni hnew hfg y0 y5
              go_roundw
              case rel => exact ⟨fg, HNEW.out⟩
              case measure => exact Nat.lt_of_le_of_lt (HMU.out _ _ _ fg HNEW.out).2 (by have h := HFG.out; simp only [List.length_cons, HM.out] at h; exact h)
            · exact absurd ha (look_not h0 HAF.out.1).2
end Go.Proofs.Ytfnfbljijkjkjaa
/- The document's Same of binds. -/
namespace Go.Proofs.Ytfnfbljijkjkjaa
open Go.RowKit Go.Deep

/-- Written alike. -/
def same1 (x y : Bn) : Bool := (x.1.toList == y.1.toList) && (cmpN x.2 y.2 == 0)
def sameA : List Bn → List Bn → Bool
  | [], [] => true
  | x :: r, y :: s => same1 x y && sameA r s
  | _, _ => false
theorem sameA_len : ∀ {a b : List Bn}, a.length ≠ b.length → sameA a b = false
  | [], [], h => absurd rfl h
  | [], _ :: _, _ => rfl
  | _ :: _, [], _ => rfl
  | x :: r, y :: s, h => by
    unfold sameA
    rw [sameA_len (by simpa using h), Bool.and_false]
theorem sameA_self : ∀ a : List Bn, sameA a a = true
  | [] => rfl
  | x :: r => by
    unfold sameA same1
    have h : cmpN x.2 x.2 = 0 := by have := cmpN_anti x.2 x.2; omega
    rw [sameA_self r, h]
    simp
theorem sameA_step {a b : List Bn} {j : Nat} (ha : j < a.length) (hb : j < b.length) : sameA (a.drop j) (b.drop j) = (same1 a[j] b[j] && sameA (a.drop (j + 1)) (b.drop (j + 1))) := by
  rw [List.drop_eq_getElem_cons ha, List.drop_eq_getElem_cons hb]
  rfl
set_option maxRecDepth 100000 in
set_option maxHeartbeats 4000000 in
/-- The document's Same of binds. -/
theorem rsameb_any (pa : Option Addr) (ca : Nat) (as' : List Bn) (pb : Option Addr) (cb : Nat) (bs : List Bn) (w : World) (hA : BindsAt w pa as'.length as') (hB : BindsAt w pb bs.length bs) :
    Calls Try.prog 17 #[.slice pa as'.length ca, .slice pb bs.length cb] w fun e w' => e = .returned (.bool (sameA as' bs)) ∧ Below w.heap.size w w' := by
  have HA := hid hA; have HB := hid hB
  have hna : as'.length ≤ 9223372036854775807 := hA.small
  have hnb : bs.length ≤ 9223372036854775807 := hB.small
  clear hA hB
  by_cases hl : as'.length = bs.length
  · obtain ⟨R, hR⟩ : ∃ R, sameA as' bs = R := ⟨_, rfl⟩
    rw [hR]
    have HR := hid hR
    have HLN := hid hl
    obtain ⟨n, hn⟩ : ∃ n, bs.length = n := ⟨_, rfl⟩
    rw [hn] at hl hnb ⊢
    rw [hl]
    have HN := hid hn
    clear hR hn hl hna
    go_enter Try.func17, Try.ntmps17
    go_wp2_with fail
    go_loopw [5, 6] (fun iv _ wr => ∃ j : Nat, j ≤ n ∧ iv = .int .i64 j ∧ sameA (as'.drop j) (bs.drop j) = R ∧ Below w.heap.size w wr) (fun iv _ _ => n - (intOf iv).toNat)
    case atStart => exact ⟨0, Nat.zero_le _, rfl, HR.out, Below.refl _ _⟩
    case round =>
      obtain ⟨j, hj, rfl, hs, hlow⟩ := hrel
      have HW := hid hlow
      clear hlow
      by_cases hlt : j < n
      · have hja : j < as'.length := by rw [HLN.out, HN.out]; exact hlt
        have hjb : j < bs.length := by rw [HN.out]; exact hlt
        rw [sameA_step hja hjb] at hs
        obtain ⟨b1, o1, a1, c1, rfl, hbd⟩ := (HA.out.below HW.out).cells j hja
        obtain ⟨b2, o2, a2, c2, rfl, hbd2⟩ := (HB.out.below HW.out).cells j hjb
        obtain ⟨⟨vx, ⟨x, l⟩⟩, hy⟩ : ∃ y, as'[j] = y := ⟨_, rfl⟩
        obtain ⟨⟨vy, ⟨y, m⟩⟩, hy2⟩ : ∃ y, bs[j] = y := ⟨_, rfl⟩
        rw [hy] at hbd hs
        rw [hy2] at hbd2 hs
        unfold same1 at hs
        dsimp only at hs
        have HS := hid hs
        have HBD := hid hbd; have HBD2 := hid hbd2
        obtain ⟨cv, hcv⟩ : ∃ cv, (cmpN (x, l) (y, m) == 0) = cv := ⟨_, rfl⟩
        have hC : Hid (∀ w', Below wr.heap.size wr w' → Calls Try.prog 26 #[.agg #[.string x.1, .int .i64 x.2, .slice a1 (lenF l) c1], .agg #[.string y.1, .int .i64 y.2, .slice a2 (lenF m) c2]] w' fun e w'' => e = .returned (.bool cv) ∧ Below w'.heap.size w' w'') := hid fun w' hb => by
          rw [← hcv]
          exact rsame_any (x, l) (y, m) a1 a2 c1 c2 w' (HBD.out.tm.below hb) (HBD2.out.tm.below hb)
        rw [hcv] at HS
        have hne := later_some wr
        have p1 := later_cell hbd.name; have p2 := later_cell hbd.sym; have p3 := later_cell hbd.list
        have q1 := later_cell hbd2.name; have q2 := later_cell hbd2.sym; have q3 := later_cell hbd2.list
        dsimp only at p1 p2 p3 q1 q2 q3
        have hk0 : (0 : Int) ≤ (j : Int) := by omega
        have hkn : (j : Int) < (n : Int) := by omega
        clear hbd hbd2 hs hy hy2 hcv hja hjb
        go_wp2_with fail
        refine wp_region_later (by kernel_rfl) (by kernel_rfl) ?_
        repeat (go_big_quiet_step ((refine calls_later (hC.out _ ?_); exact Later.below _)))
        refine wpQuiet_nil ?_
        intro _ hw'
        obtain ⟨b2', hw''⟩ := hw'
        subst hw''
        have HW2 : Hid (Below w.heap.size w b2'.now) := hid (HW.out.trans (b2'.below.mono HW.out.size))
        have r0 := later_cell (HBD.out.below b2'.below).var
        have s0 := later_cell (HBD2.out.below b2'.below).var
        dsimp only at r0 s0
        have hne2 := later_some b2'.now
        clear p1 p2 p3 q1 q2 q3 hC
        cases cv with
        | false =>
          have hR := HS.out
          rw [Bool.and_false, Bool.false_and] at hR
          subst hR
          clear HS
          go_wp2_with fail
          refine wp_region_later (by kernel_rfl) (by kernel_rfl) ?_
          repeat (go_big_quiet_step (fail))
          refine wpQuiet_nil ?_
          intro _ hw'
          obtain ⟨b3, hw''⟩ := hw'
          subst hw''
          have HW3 := hid (HW2.out.trans (b3.below.mono HW2.out.size))
          clear r0 s0
          go_wp2
          go_ret
          exact ⟨rfl, HW3.out⟩
        | true =>
          by_cases he : vx.toList = vy.toList
          · have heb : (vx.toList == vy.toList) = true := by simp [he]
            have hR := HS.out
            rw [heb, Bool.true_and, Bool.true_and] at hR
            have HS2 := hid hR
            clear HS hR
            go_wp2_with fail
            refine wp_region_later (by kernel_rfl) (by kernel_rfl) ?_
            repeat (go_big_quiet_step (fail))
            refine wpQuiet_nil ?_
            intro _ hw'
            obtain ⟨b3, hw''⟩ := hw'
            subst hw''
            have HW3 := hid (HW2.out.trans (b3.below.mono HW2.out.size))
            clear r0 s0
            go_wp2
            go_roundw
            case rel => exact ⟨j + 1, by omega, by go_num, HS2.out, HW3.out⟩
            case measure => simp [intOf]; omega
          · have heb : (vx.toList == vy.toList) = false := by simp [he]
            have hR := HS.out
            rw [heb, Bool.false_and, Bool.false_and] at hR
            subst hR
            clear HS
            go_wp2_with fail
            refine wp_region_later (by kernel_rfl) (by kernel_rfl) ?_
            repeat (go_big_quiet_step (fail))
            refine wpQuiet_nil ?_
            intro _ hw'
            obtain ⟨b3, hw''⟩ := hw'
            subst hw''
            have HW3 := hid (HW2.out.trans (b3.below.mono HW2.out.size))
            clear r0 s0
            go_wp2
            go_ret
            exact ⟨rfl, HW3.out⟩
      · have hd : as'.drop j = [] := List.drop_eq_nil_of_le (by rw [HLN.out, HN.out]; omega)
        have hd2 : bs.drop j = [] := List.drop_eq_nil_of_le (by rw [HN.out]; omega)
        rw [hd, hd2] at hs
        have hR : R = true := hs.symm
        subst hR
        clear hs hd hd2
        go_wp2
        go_ret
        exact ⟨rfl, HW.out⟩
  · rw [sameA_len hl]
    have hl2 : ¬ ((as'.length : Int) = (bs.length : Int)) := by omega
    have hl3 : ((as'.length : Int) == (bs.length : Int)) = false := beq_eq_false_iff_ne.2 hl2
    go_enter Try.func17, Try.ntmps17
    go_wp2
    go_ret
    exact ⟨rfl, Below.refl _ _⟩
end Go.Proofs.Ytfnfbljijkjkjaa
/- What the library says of slices.SortFunc, laid at this program. -/
namespace Go.Proofs
open Go.Shelf
def Try.sortB_ren : Go.Shelf.Ren := ⟨fun | 6 => 51 | 15 => 72 | 14 => 71 | 28 => 92 | 29 => 93 | 20 => 84 | 21 => 85 | 22 => 86 | 23 => 87 | 24 => 88 | 25 => 89 | 26 => 90 | 27 => 91 | 46 => 107 | 47 => 108 | 48 => 109 | 49 => 110 | 50 => 111 | 57 => 113 | n => n, fun | 22 => 43 | 24 => 33 | 25 => 87 | 3 => 3 | 39 => 107 | 0 => 0 | 53 => 131 | 55 => 133 | 4 => 4 | 46 => 125 | 45 => 124 | 50 => 121 | 5 => 5 | 9 => 9 | 66 => 140 | 70 => 144 | 76 => 146 | 77 => 147 | n => n, fun | n => n⟩
theorem Try.sortB : Go.Proofs.SlLaysF0.n6 Try.prog Try.sortB_ren := {
  mixed := by kernel_rfl
  f6 := ⟨Try.f51.name, by decide, Try.func51.trans (congrArg some (by kernel_rfl))⟩
  f14 := ⟨Try.f71.name, by decide, Try.func71.trans (congrArg some (by kernel_rfl))⟩
  f15 := Try.func72.trans (congrArg some (by kernel_rfl))
  f20 := ⟨Try.f84.name, by decide, Try.func84.trans (congrArg some (by kernel_rfl))⟩
  f21 := ⟨Try.f85.name, by decide, Try.func85.trans (congrArg some (by kernel_rfl))⟩
  f22 := ⟨Try.f86.name, by decide, Try.func86.trans (congrArg some (by kernel_rfl))⟩
  f23 := ⟨Try.f87.name, by decide, Try.func87.trans (congrArg some (by kernel_rfl))⟩
  f24 := ⟨Try.f88.name, by decide, Try.func88.trans (congrArg some (by kernel_rfl))⟩
  f25 := ⟨Try.f89.name, by decide, Try.func89.trans (congrArg some (by kernel_rfl))⟩
  f26 := ⟨Try.f90.name, by decide, Try.func90.trans (congrArg some (by kernel_rfl))⟩
  f27 := ⟨Try.f91.name, by decide, Try.func91.trans (congrArg some (by kernel_rfl))⟩
  f28 := Try.func92.trans (congrArg some (by kernel_rfl))
  f29 := Try.func93.trans (congrArg some (by kernel_rfl))
  f46 := ⟨Try.f107.name, by decide, Try.func107.trans (congrArg some (by kernel_rfl))⟩
  f47 := Try.func108.trans (congrArg some (by kernel_rfl))
  f48 := Try.func109.trans (congrArg some (by kernel_rfl))
  f49 := ⟨Try.f110.name, by decide, Try.func110.trans (congrArg some (by kernel_rfl))⟩
  f50 := ⟨Try.f111.name, by decide, Try.func111.trans (congrArg some (by kernel_rfl))⟩
  f57 := ⟨Try.f113.name, by decide, Try.func113.trans (congrArg some (by kernel_rfl))⟩
  t0 := Try.underlying0
  a0 := Try.isAgg0
  z0 := Try.sizeOf0
  v0 := Try.zeroValue0
  t3 := Try.underlying3
  a3 := Try.isAgg3
  z3 := Try.sizeOf3
  v3 := Try.zeroValue3
  t4 := Try.underlying4
  a4 := Try.isAgg4
  z4 := Try.sizeOf4
  v4 := Try.zeroValue4
  t5 := Try.underlying5
  a5 := Try.isAgg5
  z5 := Try.sizeOf5
  v5 := Try.zeroValue5
  t9 := Try.underlying9
  a9 := Try.isAgg9
  z9 := Try.sizeOf9
  v9 := Try.zeroValue9
  t22 := Try.underlying43
  a22 := Try.isAgg43
  z22 := Try.sizeOf43
  v22 := Try.zeroValue43
  t25 := Try.underlying87
  a25 := Try.isAgg87
  z25 := Try.sizeOf87
  v25 := Try.zeroValue87
  t39 := Try.underlying107
  a39 := Try.isAgg107
  z39 := Try.sizeOf107
  v39 := Try.zeroValue107
  t45 := Try.underlying124
  a45 := Try.isAgg124
  z45 := Try.sizeOf124
  v45 := Try.zeroValue124
  t46 := Try.underlying125
  a46 := Try.isAgg125
  z46 := Try.sizeOf125
  v46 := Try.zeroValue125
  t50 := Try.underlying121
  a50 := Try.isAgg121
  z50 := Try.sizeOf121
  v50 := Try.zeroValue121
  t53 := Try.underlying131
  a53 := Try.isAgg131
  z53 := Try.sizeOf131
  v53 := Try.zeroValue131
  t55 := Try.underlying133
  a55 := Try.isAgg133
  z55 := Try.sizeOf133
  v55 := Try.zeroValue133
  t66 := Try.underlying140
  a66 := Try.isAgg140
  z66 := Try.sizeOf140
  v66 := Try.zeroValue140
  t70 := Try.underlying144
  a70 := Try.isAgg144
  z70 := Try.sizeOf144
  v70 := Try.zeroValue144
  t76 := Try.underlying146
  a76 := Try.isAgg146
  z76 := Try.sizeOf146
  v76 := Try.zeroValue146
  t77 := Try.underlying147
  a77 := Try.isAgg147
  z77 := Try.sizeOf147
  v77 := Try.zeroValue147 }
end Go.Proofs
/- slices.SortFunc of binds by their variables. -/
namespace Go.Proofs.Ytfnfbljijkjkjaa
open Go.RowKit Go.Deep

def zBk : Bk := (noS, ⟨(noS, 0), .nil, none, 0⟩)
def encB (b : Bk) : List Value := .string b.1 :: b.2.cells
def cmpB (x y : Bk) : Int := Lib.compareBytes x.1.data.toList y.1.data.toList
theorem swoB : Sort.SWO (ltOf cmpB) where
  irrefl x := by
    have := bytes_anti x.1.data.toList x.1.data.toList
    unfold ltOf cmpB
    rw [decide_eq_false_iff_not]
    omega
  trans x y z h1 h2 := by
    unfold ltOf cmpB at *
    rw [decide_eq_true_iff] at *
    exact (bytes_cons _ _ _).lt h1 h2
  ntrans x y z h1 h2 := by
    unfold ltOf cmpB at *
    rw [decide_eq_false_iff_not] at *
    have a1 := bytes_anti x.1.data.toList y.1.data.toList
    have a2 := bytes_anti y.1.data.toList z.1.data.toList
    have a3 := bytes_anti x.1.data.toList z.1.data.toList
    intro h3
    have c1 := bytes_cons y.1.data.toList x.1.data.toList z.1.data.toList
    have c2 := bytes_cons x.1.data.toList z.1.data.toList y.1.data.toList
    rcases Int.lt_or_le (Lib.compareBytes y.1.data.toList x.1.data.toList) 0 with h4 | h4
    · have := c1.lt h4 h3
      omega
    · have e1 : Lib.compareBytes x.1.data.toList y.1.data.toList = 0 := by omega
      have ex : x.1.data.toList = y.1.data.toList := bytes_zero e1
      rw [ex] at h3
      omega
theorem bdCells_nth : ∀ (ks : List Bk) (i c : Nat) {k : Bk}, ks[i]? = some k → c < 4 → (bdCells ks)[i * 4 + c]? = (encB k)[c]?
  | [], _, _, _, h, _ => by simp at h
  | k :: r, 0, c, k', h, hc => by
    simp only [List.getElem?_cons_zero, Option.some.injEq] at h
    subst h
    show (encB k ++ bdCells r)[0 * 4 + c]? = _
    rw [Nat.zero_mul, Nat.zero_add, List.getElem?_append_left (by simpa [encB, Kv.cells] using hc)]
  | k :: r, i + 1, c, k', h, hc => by
    simp only [List.getElem?_cons_succ] at h
    show (encB k ++ bdCells r)[(i + 1) * 4 + c]? = _
    rw [List.getElem?_append_right (by simp [encB, Kv.cells]; omega), show (i + 1) * 4 + c - (encB k).length = i * 4 + c by simp [encB, Kv.cells]; omega]
    exact bdCells_nth r i c h hc
theorem heap_sortB (w : World) (g m : Nat) (d : Array Bk) (os : Array Obj) [Inhabited Bk] {q : Nat} (hq : q < w.heap.size) :
    (sortWorldK encB 4 w g 0 m d os).heap[q]? = if q = g then (w.heap[q]?).map (Sort.onCells (Sort.putCells id 0 (Sort.flatK encB 4 d))) else w.heap[q]? := by
  unfold sortWorldK
  rw [Sort.heap_grow_old _ _ (by unfold Sort.putRowK; rw [Sort.size_putRow]; exact hq)]
  unfold Sort.putRowK Sort.putRow Sort.mapBlock
  simp only [Array.getElem?_modify, Sort.ahead]
  by_cases e : q = g
  · subst e; simp
  · rw [if_neg e, if_neg (fun h => e h.symm)]
set_option maxRecDepth 100000 in
set_option maxHeartbeats 2000000 in
theorem bcmp_any (x y : Bk) (w : World) : Calls Try.prog 52 #[.agg (encB x).toArray, .agg (encB y).toArray] w fun e w' => e = .returned (.int .i64 (cmpB x y)) ∧ ∃ os, w' = Sort.grow w os := by
  obtain ⟨xn, ⟨⟨x1, x2⟩, xl, xa, xc⟩⟩ := x
  obtain ⟨yn, ⟨⟨y1, y2⟩, yl, ya, yc⟩⟩ := y
  show Calls Try.prog 52 #[.agg #[.string xn, .string x1, .int .i64 x2, .slice xa (lenF xl) xc], .agg #[.string yn, .string y1, .int .i64 y2, .slice ya (lenF yl) yc]] w _
  obtain ⟨b1, b2, hb0⟩ := two_new w #[.string xn, .string x1, .int .i64 x2, .slice xa (lenF xl) xc] 33 #[.string yn, .string y1, .int .i64 y2, .slice ya (lenF yl) yc] 33
  have z0 := b1.c 0; have y0 := b2.c 0
  unfold cmpB
  dsimp only
  clear b1 b2 hb0
  go_enter Try.func52, Try.ntmps52
  go_wp2_with (go_at_call 53; refine (Try.strings_Compare _ _ _).mono ?_; rintro e w1 ⟨rfl, rfl⟩)
  go_ret
  exact ⟨rfl, ((Grew.refl w).alloc _).alloc _⟩
set_option maxRecDepth 100000 in
theorem bcmp_lays (w : World) (g n : Nat) [Inhabited Bk] : CmpLays Try.prog 52 #[] encB 4 cmpB g 0 n w := by
  intro m os dk _ x y
  refine (bcmp_any x y _).mono ?_
  rintro e w' ⟨rfl, os', rfl⟩
  exact ⟨rfl, 0, os', rfl⟩
theorem Try.enter52 : ∀ args w, (callFunc 52 args).run Try.prog w = .ok (.enter 52 args) w := enters_of Try.func52 (by kernel_rfl) rfl

set_option maxRecDepth 100000 in
theorem sort_binds (w : World) (g cap : Nat) (cur : Array Value) (ks : List Bk) (hg : w.heap[g]? = some (Obj.cells cur 33 (0, 0))) (hc : ∀ (j : Nat) (u : Value), (bdCells ks)[j]? = some u → cur[j]? = some u) (hn : ks.length < 4611686018427387904) :
    Calls Try.prog 51 #[.slice (some ⟨g, 0, none⟩) ks.length cap, .func (.func 52) #[] #[]] w fun e w' => e = .returned (.tuple #[]) ∧ ∃ (ms : List Bk) (cur' : Array Value), List.Perm ms ks ∧ ms.Pairwise (fun x y => 0 ≤ cmpB y x) ∧ w'.heap[g]? = some (Obj.cells cur' 33 (0, 0)) ∧
      (∀ (j : Nat) (u : Value), (bdCells ms)[j]? = some u → cur'[j]? = some u) ∧ Fr (fun q => q = g) w w' := by
  letI : Inhabited Bk := ⟨zBk⟩
  have hglt : g < w.heap.size := (Array.getElem?_eq_some_iff.1 hg).1
  have cellAt : ∀ (d : Array Bk) (j : Nat), j < d.size * 4 → (bdCells d.toList)[j]? = some (Sort.flatK encB 4 d)[j]! := fun d j hj => by
    rw [Sort.get_flatK _ _ _ _ hj]
    have hi : j / 4 < d.size := by omega
    have h1 : d.toList[j / 4]? = some d[j / 4]! := by
      rw [Array.getElem?_toList, Array.getElem?_eq_getElem hi, getElem!_pos d _ hi]
    have h2 := bdCells_nth _ (j / 4) (j % 4) h1 (by omega)
    rw [show j / 4 * 4 + j % 4 = j by omega] at h2
    rw [h2]
    have hl : j % 4 < (encB d[j / 4]!).length := by show _ < 4; omega
    rw [getElem!_pos (encB d[j / 4]!) (j % 4) hl]
    exact List.getElem?_eq_getElem hl
  have hH : Sort.HoldsK encB 4 w g 0 ks.toArray := fun j hj => by
    rw [Sort.size_flatK] at hj
    have h1 := cellAt ks.toArray j hj
    refine ⟨?_, by simp [World.frozen?, hg]⟩
    rw [Nat.zero_add, cell_of_row w g j cur 33 (0, 0) hg]
    exact hc j _ h1
  have hs := AnyQ.slices_SortFunc Try.sortB 4 Try.isAgg33 Try.sizeOf33 encB (fun _ => rfl) (fun x v hv => one_bind x.1 x.2.x x.2.a (lenF x.2.l) x.2.c v hv) cmpB swoB 52 #[] g 0 cap ks.toArray w Try.enter52 (bcmp_lays w g ks.toArray.size) hH hglt (by simpa using hn)
  rw [List.size_toArray] at hs
  refine Calls.mono hs ?_
  rintro e w' ⟨rfl, d', n, os, hp, hso, rfl⟩
  obtain ⟨p1, _, p3⟩ := hp
  have hd's : d'.size = ks.length := by rw [p1]; simp
  have hperm : List.Perm d'.toList ks := by
    have e1 : (d'.extract 0 ks.length).toList = d'.toList := by rw [← hd's]; simp
    have e2 : (ks.toArray.extract 0 ks.length).toList = ks := by simp
    rw [e1, e2] at p3
    exact p3
  refine ⟨rfl, d'.toList, Sort.putCells id 0 (Sort.flatK encB 4 d') cur, hperm, ?_, ?_, ?_, ?_⟩
  · rw [List.pairwise_iff_getElem]
    intro i j hi hj hij
    simp only [Array.length_toList] at hi hj
    have h1 := hso i j (Nat.zero_le _) hij (by omega)
    unfold ltOf at h1
    rw [decide_eq_false_iff_not, getElem!_pos d' i hi, getElem!_pos d' j hj] at h1
    simp only [Array.getElem_toList]
    omega
  · rw [heap_sortB _ _ _ _ _ hglt, if_pos rfl, hg]
    rfl
  · intro j u hu
    have hj : j < d'.size * 4 := by
      rcases Nat.lt_or_ge j (d'.size * 4) with h' | h'
      · exact h'
      · rw [List.getElem?_eq_none (by rw [bdCells_len, Array.length_toList]; exact h')] at hu; cases hu
    have h1 := cellAt d' j hj
    rw [hu] at h1
    have hjc : j < cur.size := by
      have hjl : j < (bdCells ks).length := by rw [bdCells_len]; omega
      have := hc j _ (List.getElem?_eq_getElem hjl)
      exact (Array.getElem?_eq_some_iff.1 this).1
    unfold Sort.putCells
    rw [Array.getElem?_mapIdx, Array.getElem?_eq_getElem hjc, Option.map_some, if_pos ⟨Nat.zero_le _, by rw [Sort.size_flatK]; omega⟩, Nat.sub_zero]
    exact h1.symm
  · refine ⟨⟨rfl, rfl, rfl, ?_, fun k hk => absurd hk (Nat.not_lt_zero k)⟩, fun q hq hne => ?_⟩
    · unfold sortWorldK Sort.putRowK
      rw [Sort.size_grow, Sort.size_putRow]
      exact Nat.le_add_right _ _
    · rw [heap_sortB _ _ _ _ _ hq, if_neg hne]
end Go.Proofs.Ytfnfbljijkjkjaa
/- told of the solver. -/
namespace Go.Proofs.Ytfnfbljijkjkjaa
open Go.RowKit Go.Deep

/-- Four cells stored. -/
def set4 (W : World) (g o : Nat) (b : Bk) : World := (((W.setCell ⟨g, o, none⟩ (.string b.1)).setCell ⟨g, o + 1, none⟩ (.string b.2.x.1)).setCell ⟨g, o + 2, none⟩ (.int .i64 b.2.x.2)).setCell ⟨g, o + 3, none⟩ (.slice b.2.a (lenF b.2.l) b.2.c)
theorem set4_far {W : World} {g q : Nat} (h : q ≠ g) (o : Nat) (b : Bk) : (set4 W g o b).heap[q]? = W.heap[q]? := (set_far h _ _).trans ((set_far h _ _).trans ((set_far h _ _).trans (set_far h _ _)))
theorem set4_size (W : World) (g o : Nat) (b : Bk) : (set4 W g o b).heap.size = W.heap.size := by simp [set4]
theorem set4_below {n0 : Nat} {w W : World} {g : Nat} (hb : Below n0 w W) (h : n0 ≤ g) (o : Nat) (b : Bk) : Below n0 w (set4 W g o b) :=
  (((hb.setCell (p := ⟨g, o, none⟩) h _).setCell (p := ⟨g, o + 1, none⟩) h _).setCell (p := ⟨g, o + 2, none⟩) h _).setCell (p := ⟨g, o + 3, none⟩) h _
/-- A row of n binds, of which the first ones are these. -/
def BdRow (w : World) (g n : Nat) (ks : List Bk) : Prop := ∃ cur, w.heap[g]? = some (Obj.cells cur 33 (0, 0)) ∧ cur.size = n * 4 ∧ ∀ (i : Nat) (u : Value), (bdCells ks)[i]? = some u → cur[i]? = some u
theorem BdRow.keep {w w' : World} {g n : Nat} {ks : List Bk} (h : BdRow w g n ks) (hb : w'.heap[g]? = w.heap[g]?) : BdRow w' g n ks := by
  obtain ⟨cur, h1, h2⟩ := h; exact ⟨cur, hb.trans h1, h2⟩
theorem BdRow.lt {w : World} {g n : Nat} {ks : List Bk} (h : BdRow w g n ks) : g < w.heap.size := by
  obtain ⟨cur, h1, _⟩ := h; exact (Array.getElem?_eq_some_iff.1 h1).1
theorem BdRow.cell {w : World} {g n : Nat} {ks : List Bk} (h : BdRow w g n ks) {i : Nat} (hi : i < n * 4) : ∃ v, w.cell? ⟨g, i, none⟩ = some v := by
  obtain ⟨cur, h1, h2, _⟩ := h
  exact row_cell h1 (by omega)
theorem BdRow.frozen {w : World} {g n : Nat} {ks : List Bk} (h : BdRow w g n ks) (i : Nat) : w.frozen? ⟨g, i, none⟩ = false := by
  obtain ⟨cur, h1, _⟩ := h
  simp [World.frozen?, h1]
theorem bdCells_app (a b : List Bk) : bdCells (a ++ b) = bdCells a ++ bdCells b := by unfold bdCells; rw [List.flatMap_append]
theorem BdRow.push {w : World} {g n : Nat} {ks : List Bk} (h : BdRow w g n ks) {o : Nat} (ho : o = ks.length * 4) (hlt : o + 4 ≤ n * 4) (b : Bk) : BdRow (set4 w g o b) g n (ks ++ [b]) := by
  subst ho
  obtain ⟨cur, h1, h2, h3⟩ := h
  refine ⟨_, block_set (block_set (block_set (block_set h1 _) _) _) _, by simp [h2], fun i u hu => ?_⟩
  have hl := bdCells_len ks
  rw [bdCells_app] at hu
  simp only [Array.getElem?_setIfInBounds, Array.size_setIfInBounds]
  have e : bdCells [b] = [.string b.1, .string b.2.x.1, .int .i64 b.2.x.2, .slice b.2.a (lenF b.2.l) b.2.c] := rfl
  by_cases hc : i < ks.length * 4
  · rw [List.getElem?_append_left (by omega)] at hu
    rw [if_neg (by omega), if_neg (by omega), if_neg (by omega), if_neg (by omega)]
    exact h3 i u hu
  · rw [List.getElem?_append_right (by omega), hl, e] at hu
    have hi : i = ks.length * 4 ∨ i = ks.length * 4 + 1 ∨ i = ks.length * 4 + 2 ∨ i = ks.length * 4 + 3 := by
      have := (List.getElem?_eq_some_iff.1 hu).1
      simp only [List.length_cons, List.length_nil] at this
      omega
    rcases hi with rfl | rfl | rfl | rfl
    · rw [if_neg (by omega), if_neg (by omega), if_neg (by omega), if_pos rfl, if_pos (by omega)]
      rw [Nat.sub_self] at hu
      exact hu
    · rw [if_neg (by omega), if_neg (by omega), if_pos rfl, if_pos (by omega)]
      rw [show ks.length * 4 + 1 - ks.length * 4 = 1 by omega] at hu
      exact hu
    · rw [if_neg (by omega), if_pos rfl, if_pos (by omega)]
      rw [show ks.length * 4 + 2 - ks.length * 4 = 2 by omega] at hu
      exact hu
    · rw [if_pos rfl, if_pos (by omega)]
      rw [show ks.length * 4 + 3 - ks.length * 4 = 3 by omega] at hu
      exact hu
theorem binds_of_row {W : World} {g : Nat} {cur : Array Value} {ms : List Bk} (hg : W.heap[g]? = some (Obj.cells cur 33 (0, 0))) (hc : ∀ (j : Nat) (u : Value), (bdCells ms)[j]? = some u → cur[j]? = some u) (ht : ∀ b ∈ ms, TmAt W b.2.x b.2.a b.2.c b.2.l) (hn : ms.length ≤ 1048576) (hs : ∀ b ∈ ms, b.1.size ≤ maxLen) : BindsAt W (some ⟨g, 0, none⟩) (ms.map btn).length (ms.map btn) := by
  refine ⟨rfl, by rw [List.length_map]; unfold maxLen; omega, fun i hi => ?_, fun x hx => ?_⟩
  · rw [List.length_map] at hi
    obtain ⟨h0, h1, h2, h3⟩ := bd_at ms i hi
    have hcell : ∀ j u, (bdCells ms)[j]? = some u → W.cell? ⟨g, j, none⟩ = some u := fun j u hu => by rw [cell_of_row W g j cur 33 (0, 0) hg]; exact hc j u hu
    refine ⟨g, 0, ms[i].2.a, ms[i].2.c, rfl, ?_⟩
    rw [List.getElem_map, Nat.zero_add]
    exact ⟨hcell _ _ h0, hcell _ _ h1, hcell _ _ h2, hcell _ _ h3, ht _ (List.getElem_mem hi)⟩
  · obtain ⟨b, hb, rfl⟩ := List.mem_map.1 hx
    exact hs b hb
set_option maxRecDepth 100000 in
set_option maxHeartbeats 8000000 in
theorem told_ok : ToldOk := by
  intro w0 B v1 v2 n es bs w hS hnb hsz
  obtain ⟨i0, hi, hz0, hz1, hz2⟩ := info_parts Try.info33
  obtain ⟨p1, cap1, rfl, hcap, _, _⟩ := own_any hS.r2
  have HS := hid hS; have HSZ := hid hsz
  have c1 := hS.box.c 1
  obtain ⟨nb, hnn⟩ : ∃ nb, bs.length = nb := ⟨_, rfl⟩
  rw [hnn] at hnb c1 hcap
  have HNN := hid hnn
  have hw0 := hS.low.size
  clear hS hsz
  rw [hnn] at HS
  clear hnn
  go_enter Try.func33, Try.ntmps33
  go_wp2_with (at_make; refine wpList_make_full _ rfl _ _ 43 rfl w.heap.size 33 i0 (.agg #[.string ⟨#[]⟩, .string ⟨#[]⟩, .int .i64 0, .slice none 0 0]) 4 Try.underlying43 hi hz0 hz1 .i64 .i64 _ _ nb rfl rfl rfl rfl (by rw [hz2]; omega) (by unfold maxLen; omega) (by simp) ?_; intro wm hown0 hgrow0; have hb0 : Below w.heap.size w wm := (Below.refl _ _).grown hgrow0 (Nat.le_refl _) (fun k e => by cases e); have HB0 := hid hb0; have k1 := (HS.out.box.below hb0).c 1; have HR0 : Hid (BdRow wm w.heap.size nb []) := hid (by rcases hown0.2 with ⟨hv, _⟩ | ⟨g', cap', cur, hv, _, hh, _, _, hcs, _⟩ <;> first | (cases hv; done) | (cases hv; exact ⟨cur, hh, hcs, fun i u hu => by cases hu⟩)); clear hown0 hgrow0 hb0)
  clear k1
  go_loopw [17] (fun i wr => ∃ (j : Nat) (ds : List Bk), j ≤ nb ∧ i = .int .i64 j ∧ ds.length = j ∧ ds.map btn = (bs.take j).map btn ∧ Below w.heap.size w wr ∧ BdRow wr w.heap.size nb ds ∧ ∀ b ∈ ds, SepTm wr (fun q => w.heap.size < q) b.2.x b.2.a b.2.c b.2.l) (fun i _ => nb - (intOf i).toNat)
  case atStart => exact ⟨0, [], Nat.zero_le _, rfl, rfl, rfl, HB0.out, HR0.out, fun b hb => by cases hb⟩
  case round =>
    obtain ⟨j, ds, hj, rfl, hdl, hdm, hb, hrw, hsp⟩ := hrel
    have HBR := hid hb; have HRW := hid hrw; have HSP := hid hsp; have HDM := hid hdm; have HDL := hid hdl
    by_cases hlt : j < nb
    · have hjb : j < bs.length := by have := HNN.out; omega
      have hr2 := HS.out.r2
      rw [HNN.out] at hr2
      obtain ⟨g, rfl⟩ : ∃ g, p1 = some ⟨g, 0, none⟩ := by
        obtain ⟨g, cap, e, _⟩ := own_slice hr2 (by omega)
        cases e
        exact ⟨g, rfl⟩
      obtain ⟨h0, h1, h2, h3⟩ := owns_cellb hr2 hjb
      have hT := tmO_tm (HS.out.tb _ (List.getElem_mem hjb))
      have htk : (bs.take (j + 1)).map btn = (bs.take j).map btn ++ [btn bs[j]] := by rw [List.take_succ_eq_append_getElem hjb, List.map_append]; rfl
      generalize bs[j] = bb at h0 h1 h2 h3 hT htk
      obtain ⟨nm, ⟨⟨xn, xs⟩, l, a, d⟩⟩ := bb
      dsimp only at *
      have q0 := below_cell hb _ _ h0; have q1 := below_cell hb _ _ h1; have q2 := below_cell hb _ _ h2; have q3 := below_cell hb _ _ h3
      rw [show j * 4 + 1 + 1 = j * 4 + 2 by omega] at q2
      rw [show j * 4 + 1 + 2 = j * 4 + 3 by omega] at q3
      obtain ⟨E, hE⟩ : ∃ E, wr.alloc (.cells #[.string nm, .string xn, .int .i64 xs, .slice a (lenF l) d] 33) = E := ⟨_, rfl⟩
      have hbE : Below wr.heap.size wr E := by rw [← hE]; exact alloc_below0 wr _
      have bE : Box E wr.heap.size 33 #[.string nm, .string xn, .int .i64 xs, .slice a (lenF l) d] := by rw [← hE]; exact Box.new wr 33 _
      have HBE := hid hbE; have BE := hid bE; have HT := hid hT; have HTK := hid htk
      have HC := hid fun (W : World) (hW : Below E.heap.size E W) => clone_any (xn, xs) l a d W (HT.out.below ((HBR.out.trans (HBE.out.mono HBR.out.size)).trans (hW.mono (HBR.out.trans (HBE.out.mono HBR.out.size)).size)))
      have hcl : Hid (w.heap.size < wr.heap.size) := hid hrw.lt
      clear hb hrw hsp hdm hbE bE hT htk h0 h1 h2 h3 hr2
      go_upto_region 5 with fail
      clear hE q0 q1 q2 q3
      have d0 : E.drew.cell? ⟨wr.heap.size, 0, none⟩ = some (.string nm) := BE.out.c 0
      have d1 : E.drew.cell? ⟨wr.heap.size, 1, none⟩ = some (.string xn) := BE.out.c 1
      have d2 : E.drew.cell? ⟨wr.heap.size, 2, none⟩ = some (.int .i64 xs) := BE.out.c 2
      have d3 : E.drew.cell? ⟨wr.heap.size, 3, none⟩ = some (.slice a (lenF l) d) := BE.out.c 3
      have hjI : (j : Int) < (nb : Int) := by omega
      have hj0 : (0 : Int) ≤ (j : Int) := by omega
      go_region_with ((first
        | (go_at_call 39; (with_reducible refine Calls.mono (HC.out _ (Below.refl _ E).drew) ?_); rintro e x1 ⟨a3, c3, rfl, hs1, hb1, hzz⟩; clear hzz; have HS1 := hid hs1; have hb1' : Below E.heap.size E x1 := ((Below.refl _ E).drew).trans hb1; have HB1 := hid hb1'; have y0 : x1.cell? ⟨wr.heap.size, 0, none⟩ = some (.string nm) := (BE.out.below hb1').c 0; have hrow : BdRow x1 w.heap.size nb ds := HRW.out.keep ((hb1'.block _ (Nat.lt_of_lt_of_le hcl.out HBE.out.size)).trans (HBE.out.block _ hcl.out)); have HROW := hid hrow; have f0 := hrow.frozen (j * 4); have f1 := hrow.frozen (j * 4 + 1); have f2 := hrow.frozen (j * 4 + 2); have f3 := hrow.frozen (j * 4 + 3); obtain ⟨t0, s0⟩ := hrow.cell (i := j * 4) (by omega); obtain ⟨t1, s1⟩ := hrow.cell (i := j * 4 + 1) (by omega); obtain ⟨t2, s2⟩ := hrow.cell (i := j * 4 + 2) (by omega); obtain ⟨t3, s3⟩ := hrow.cell (i := j * 4 + 3) (by omega); clear hb1 hb1' hrow hs1)
        | fail))
      all_goals
        go_wp2_with fail
        have hlow : Below w.heap.size w x1 := (HBR.out.trans (HBE.out.mono HBR.out.size)).trans (HB1.out.mono (HBR.out.trans (HBE.out.mono HBR.out.size)).size)
        have hN : BdRow (set4 x1 w.heap.size (j * 4) (nm, ⟨(xn, xs), l, a3, c3⟩)) w.heap.size nb (ds ++ [(nm, ⟨(xn, xs), l, a3, c3⟩)]) := HROW.out.push (by rw [HDL.out]) (by omega) _
        have hL : Below w.heap.size w (set4 x1 w.heap.size (j * 4) (nm, ⟨(xn, xs), l, a3, c3⟩)) := set4_below hlow (Nat.le_refl _) _ _
        have hK : ∀ b ∈ ds ++ [(nm, (⟨(xn, xs), l, a3, c3⟩ : Kv))], SepTm (set4 x1 w.heap.size (j * 4) (nm, ⟨(xn, xs), l, a3, c3⟩)) (fun q => w.heap.size < q) b.2.x b.2.a b.2.c b.2.l := fun b hb => by
          rcases List.mem_append.1 hb with hb | hb
          · exact ((HSP.out b hb).below (HBE.out.trans (HB1.out.mono HBE.out.size))).keep fun q hq _ => set4_far (by omega) _ _
          · rw [List.mem_singleton.1 hb]
            refine SepTm.keep (fun q hq _ => set4_far (by omega) _ _) (HS1.out.mono fun q hq => ?_)
            have h5 := HBE.out.size
            have h6 : E.heap.size ≤ q := hq
            have h7 := hcl.out
            omega
        have HN := hid hN; have HL := hid hL; have HK := hid hK
        clear hN hL hK hlow
        go_roundw
        case rel => exact ⟨j + 1, ds ++ [(nm, (⟨(xn, xs), l, a3, c3⟩ : Kv))], by omega, by go_num, by rw [List.length_append, HDL.out]; rfl, by rw [HTK.out, List.map_append, HDM.out]; rfl, HL.out, HN.out, HK.out⟩
        case measure => simp [intOf]; omega
    · obtain rfl : j = nb := by omega
      obtain ⟨cur, h1, h2, h3⟩ := hrw
      have HSO := hid (sort_binds wr w.heap.size j cur ds h1 h3 (by omega))
      rw [hdl] at HSO
      have hall : bs.take j = bs := by rw [← HNN.out, List.take_length]
      rw [hall] at hdm
      have HDM2 := hid hdm
      clear hb hsp hdm h1 h3 hall
      go_wp2_with (go_at_call 51; refine HSO.out.mono ?_; rintro e w5 ⟨rfl, ms, cur', hpm, hso, hg5, hc5, hf5⟩; have HX := hid (show List.Perm ms ds ∧ ms.Pairwise (fun x y => 0 ≤ cmpB y x) ∧ w5.heap[w.heap.size]? = some (Obj.cells cur' 33 (0, 0)) ∧ (∀ (j : Nat) (u : Value), (bdCells ms)[j]? = some u → cur'[j]? = some u) ∧ Fr (fun q => q = w.heap.size) wr w5 from ⟨hpm, hso, hg5, hc5, hf5⟩); clear hpm hso hg5 hc5 hf5)
      go_ret
      obtain ⟨hpm, hso, hg5, hc5, hf5⟩ := HX.out
      have hml : ms.length = j := hpm.length_eq.trans HDL.out
      refine ⟨some ⟨w.heap.size, 0, none⟩, j, ms.map btn, by rw [List.length_map, hml]; rfl, binds_of_row hg5 hc5 (fun b hb => ((HSP.out b (hpm.mem_iff.1 hb)).keep fun q hq hlt2 => hf5.same q hlt2 (fun e => by omega)).tm) (by omega) (fun b hb => ?_), (hpm.map btn).trans (by rw [HDM2.out]), ?_, below_fr (HS.out.low.trans (HBR.out.mono hw0)) hf5 (fun q hq => by omega) (Nat.le_trans hw0 HBR.out.size)⟩
      · have h5 : btn b ∈ ds.map btn := List.mem_map_of_mem (hpm.mem_iff.1 hb)
        rw [HDM2.out] at h5
        obtain ⟨b', hb', e⟩ := List.mem_map.1 h5
        have e2 : b'.1 = b.1 := congrArg (fun z : ByteArray × Tn => z.1) e
        rw [← e2]
        exact HSZ.out b' hb'
      · rw [List.pairwise_map]
        exact hso
end Go.Proofs.Ytfnfbljijkjkjaa
/- StepFrees' walk. -/
namespace Go.Proofs.Ytfnfbljijkjkjaa
open Go.RowKit Go.Deep

/-- What Free answers, plainly. -/
def Fre (sg : List Sym) (P : List Eq2) (ms : List Bn) (ok : Bool) (er : Int) : Prop :=
  (P.all (af2 sg) = false ∧ ms = [] ∧ ok = false ∧ er = 1) ∨
  (P.all (af2 sg) = true ∧ ∃ f R, freeF sg f (P.map tn2) [] = some R ∧ ((R = (1, []) ∧ ms = [] ∧ ok = false ∧ er = 0) ∨ (R = (2, []) ∧ ms = [] ∧ ok = false ∧ er = 73) ∨ (∃ bs, R = (0, bs) ∧ ok = true ∧ er = 0 ∧ ms.Perm bs ∧ SrtB ms)))
theorem binds_none (w : World) : BindsAt w none ([] : List Bn).length [] := ⟨rfl, Nat.zero_le _, fun i h => absurd h (by simp), fun x hx => by simp at hx⟩
theorem free_form {sg : List Sym} {P : List Eq2} {w : World} {e : Ending} {w' : World} (h : FreeEnd sg P w e w') : ∃ (p : Option Addr) (c : Nat) (ms : List Bn) (ok : Bool) (er : Int), e = .returned (.tuple #[.slice p ms.length c, .bool ok, .int .i64 er]) ∧ BindsAt w' p ms.length ms ∧ Fre sg P ms ok er ∧ Below w.heap.size w w' := by
  obtain ⟨hb, h1 | ⟨h1, f, R, h2, h3⟩⟩ := h
  · exact ⟨none, 0, [], false, 1, h1.2, binds_none _, .inl ⟨h1.1, rfl, rfl, rfl⟩, hb⟩
  · rcases h3 with ⟨h3, h4⟩ | ⟨h3, h4⟩ | ⟨bs, p, c, ms, h3, h4, h5, h6, h7, _⟩
    · exact ⟨none, 0, [], false, 0, h4, binds_none _, .inr ⟨h1, f, R, h2, .inl ⟨h3, rfl, rfl, rfl⟩⟩, hb⟩
    · exact ⟨none, 0, [], false, 73, h4, binds_none _, .inr ⟨h1, f, R, h2, .inr (.inl ⟨h3, rfl, rfl, rfl⟩)⟩, hb⟩
    · exact ⟨p, c, ms, true, 0, h4, h5, .inr ⟨h1, f, R, h2, .inr (.inr ⟨bs, h3, rfl, rfl, h6, h7⟩)⟩, hb⟩
theorem fre_one {sg : List Sym} {P : List Eq2} {ms ms' : List Bn} {ok ok' : Bool} {er er' : Int} (hok : ∀ p ∈ P, okT p.1.tn ∧ okT p.2.tn) (h : Fre sg P ms ok er) (k : Fre sg P ms' ok' er') : ms' = ms ∧ ok' = ok ∧ er' = er := by
  rcases h with ⟨h1, rfl, rfl, rfl⟩ | ⟨h1, f, R, h2, h3⟩ <;> rcases k with ⟨k1, rfl, rfl, rfl⟩ | ⟨k1, g, Q, k2, k3⟩
  · exact ⟨rfl, rfl, rfl⟩
  · rw [h1] at k1; cases k1
  · rw [h1] at k1; cases k1
  · obtain rfl := free_one h2 k2
    rcases h3 with ⟨h3, rfl, rfl, rfl⟩ | ⟨h3, rfl, rfl, rfl⟩ | ⟨bs, h3, rfl, rfl, h4, h5⟩ <;> rcases k3 with ⟨k3, rfl, rfl, rfl⟩ | ⟨k3, rfl, rfl, rfl⟩ | ⟨bs', k3, rfl, rfl, k4, k5⟩
    · exact ⟨rfl, rfl, rfl⟩
    · rw [h3] at k3; simp at k3
    · rw [h3] at k3; simp at k3
    · rw [h3] at k3; simp at k3
    · exact ⟨rfl, rfl, rfl⟩
    · rw [h3] at k3; simp at k3
    · rw [h3] at k3; simp at k3
    · rw [h3] at k3; simp at k3
    · rw [h3] at k3
      have e : bs' = bs := (Prod.mk.inj k3).2.symm
      subst e
      have hi := free_idem f (P.map tn2) [] bs' (by rw [h2, h3]) (fun z hz => by
        obtain ⟨p, hp, rfl⟩ := List.mem_map.1 hz
        exact hok p hp) ⟨fun b hb => by simp at hb, fun b hb => by simp at hb, List.nodup_nil, fun b hb => by simp at hb, fun b hb => by simp at hb⟩
      exact ⟨srt_same hi.nd k4 h4 k5 h5, rfl, rfl⟩
set_option maxRecDepth 100000 in
set_option maxHeartbeats 8000000 in
theorem frees_walk (hH : HeadOk) (S : Option Addr) (n cap : Nat) (sg : List Sym) (P : List Eq2) (q : Option Addr) (d : Nat) (w : World) (hG : SigAt w S n sg) (hP : ∀ p ∈ P, TmAt w p.1.x p.1.a p.1.c p.1.l ∧ TmAt w p.2.x p.2.a p.2.c p.2.l) (hq : EqsAt w q P) (hd : P.length ≤ d) (hs : sizeP P ≤ 1048576) :
    Calls Try.prog 4 #[.slice S n cap, .slice q P.length d] w fun e w' => e = .returned (.bool true) ∧ Below w.heap.size w w' := by
  have HG := hid hG; have HP := hid hP; have HQE := hid hq; have HS := hid hs; have HD := hid hd
  have hl3 := sizeP_len P
  have hln : P.length ≤ 1048576 := by omega
  have HH := hid (hH w)
  clear hG hP hq hl3 hs hd hH
  obtain ⟨N, hN⟩ : ∃ N, P.length = N := ⟨_, rfl⟩
  have HN := hid hN
  rw [hN] at hln ⊢
  clear hN
  go_enter Try.func4, Try.ntmps4
  go_wp2_with fail
  refine HH.out.mono ?_
  rintro e w0 ⟨rfl, hb0⟩
  have HB0 := hid hb0
  clear hb0 HH
  go_wp2_with fail
  go_loopw [6, 7, 8] (fun iv _ _ wr => ∃ j : Nat, j ≤ N ∧ iv = .int .i64 j ∧ (∀ p ∈ P.take j, okT p.1.tn ∧ okT p.2.tn) ∧ Below w.heap.size w wr) (fun iv _ _ _ => N - (intOf iv).toNat)
  case atStart => exact ⟨0, Nat.zero_le _, rfl, fun p hp => by simp at hp, HB0.out⟩
  case round =>
    obtain ⟨j, hj, rfl, hall, hlow⟩ := hrel
    have HW := hid hlow; have HA := hid hall
    clear hlow hall
    by_cases hlt : j < N
    · have hjP : j < P.length := by rw [HN.out]; exact hlt
      obtain ⟨g, o, rfl, q0, q1, q2, q3, q4, q5⟩ := HQE.out j hjP
      have q0 := below_cell HW.out _ _ q0; have q1 := below_cell HW.out _ _ q1; have q2 := below_cell HW.out _ _ q2; have q3 := below_cell HW.out _ _ q3; have q4 := below_cell HW.out _ _ q4; have q5 := below_cell HW.out _ _ q5
      have hpm : P[j] ∈ P := List.getElem_mem hjP
      have HTK : Hid ((oddT P[j].1.x P[j].1.l = false) → (oddT P[j].2.x P[j].2.l = false) → ∀ p ∈ P.take (j + 1), okT p.1.tn ∧ okT p.2.tn) := hid (fun h1 h2 p hp => by
        rw [List.take_succ_eq_append_getElem hjP] at hp
        rcases List.mem_append.1 hp with hp | hp
        · exact HA.out p hp
        · rw [List.mem_singleton.1 hp]; exact ⟨odd_ok h1, odd_ok h2⟩)
      have HP1 := hid (HP.out _ hpm)
      obtain ⟨pp, hpp⟩ : ∃ pp, P[j] = pp := ⟨_, rfl⟩
      rw [hpp] at q0 q1 q2 q3 q4 q5 HTK HP1
      clear hpm hpp
      have HC1 := hid (odd_any pp.1.x pp.1.l pp.1.a pp.1.c wr (HP1.out.1.below HW.out))
      have hji : (j : Int) < (N : Int) := by omega
      have hj0 : (0 : Int) ≤ (j : Int) := by omega
      obtain ⟨t1, ht1⟩ : ∃ t, oddT pp.1.x pp.1.l = t := ⟨_, rfl⟩
      obtain ⟨t2, ht2⟩ : ∃ t, oddT pp.2.x pp.2.l = t := ⟨_, rfl⟩
      rw [ht1, ht2] at HTK
      rw [ht1] at HC1
      have HT2 := hid ht2
      clear ht1 ht2
      go_wp2_with fail
      refine HC1.out.mono ?_
      rintro e w1 ⟨rfl, hb1⟩
      have HW1 := hid (HW.out.trans (hb1.mono HW.out.size))
      have q3 := below_cell hb1 _ _ q3; have q4 := below_cell hb1 _ _ q4; have q5 := below_cell hb1 _ _ q5
      have HC2 := hid (odd_any pp.2.x pp.2.l pp.2.a pp.2.c w1 (HP1.out.2.below HW1.out))
      rw [HT2.out] at HC2
      clear hb1 q0 q1 q2 HC1
      go_wp2_with fail
      refine HC2.out.mono ?_
      rintro e w2 ⟨rfl, hb2⟩
      have HW2 := hid (HW1.out.trans (hb2.mono HW1.out.size))
      clear hb2 q3 q4 q5 HC2
      cases t1 with
      | true =>
        go_wp2_with fail
        go_ret
        exact ⟨rfl, HW2.out⟩
      | false =>
        cases t2 with
        | true =>
          go_wp2_with fail
          go_ret
          exact ⟨rfl, HW2.out⟩
        | false =>
          go_wp2_with fail
          go_roundw
          case rel => exact ⟨j + 1, by omega, by go_num, HTK.out (by first | exact rfl | exact trivial) (by first | exact rfl | exact trivial), HW2.out⟩
          case measure => simp [intOf]; omega
    · obtain rfl : j = N := by omega
      have hok : ∀ p ∈ P, okT p.1.tn ∧ okT p.2.tn := by have := HA.out; rw [List.take_of_length_le (by rw [HN.out]; exact Nat.le_refl _)] at this; exact this
      have HOK := hid hok
      have hC1 := free_any told_ok S n cap sg P q d wr (HG.out.below HW.out) (fun p hp => ⟨(HP.out p hp).1.below HW.out, (HP.out p hp).2.below HW.out⟩) (HQE.out.keep fun g o _ hg => HW.out.block g hg) hok HS.out
      rw [HN.out] at hC1
      have HC1 := hid hC1
      clear hok hC1 HA
      go_wp2_with fail
      refine HC1.out.mono ?_
      intro e w1 h1
      obtain ⟨p1, c1, ms, ok, er, rfl, hB1, hF1, hb1⟩ := free_form h1
      have HW1 := hid (HW.out.trans (hb1.mono HW.out.size))
      have hC2 := rfreeM_any S n cap sg P q d w1 (HG.out.below HW1.out) (fun p hp => ⟨(HP.out p hp).1.below HW1.out, (HP.out p hp).2.below HW1.out⟩) (HQE.out.keep fun g o _ hg => HW1.out.block g hg) HD.out HOK.out HS.out
      rw [HN.out] at hC2
      have HC2 := hid hC2
      have HB1 := hid hB1; have HF1 := hid hF1
      clear h1 hB1 hF1 hb1 hC2 HC1
      go_wp2_with fail
      refine HC2.out.mono ?_
      intro e w2 h2
      obtain ⟨p2, c2, ms', ok', er', rfl, hB2, hF2, hb2⟩ := free_form h2
      obtain ⟨rfl, rfl, rfl⟩ := fre_one HOK.out HF1.out hF2
      have HW2 := hid (HW1.out.trans (hb2.mono HW1.out.size))
      have hC3 := rsameb_any p1 c1 ms' p2 c2 ms' w2 (HB1.out.below hb2) hB2
      rw [sameA_self] at hC3
      have HC3 := hid hC3
      clear h2 hB2 hF2 hb2 hC3 HC2
      go_wp2_with fail
      refine HC3.out.mono ?_
      rintro e w3 ⟨rfl, hb3⟩
      have HW3 := hid (HW2.out.trans (hb3.mono HW2.out.size))
      clear hb3 HC3
      go_wp2_with fail
      go_ret
      exact ⟨rfl, HW3.out⟩
end Go.Proofs.Ytfnfbljijkjkjaa
/- How equations that came in are opened. -/
namespace Go.Proofs.Ytfnfbljijkjkjaa
open Go.ChangeShapes Go.WideShapes Go.ChangeAt Go.RowKit Go.Deep

theorem eqs_of {H : Type} {W : World} {b : Nat} : ∀ (ds : List (DataW H × List MemPlace)) (o : Nat),
    (∀ (i : Nat) (h : i < ds.length), ∃ p : Eq2, (W.cell? ⟨b, o + i * 6, none⟩ = some (.string p.1.x.1) ∧ W.cell? ⟨b, o + i * 6 + 1, none⟩ = some (.int .i64 p.1.x.2) ∧ W.cell? ⟨b, o + i * 6 + 2, none⟩ = some (.slice p.1.a (lenF p.1.l) p.1.c) ∧ W.cell? ⟨b, o + i * 6 + 3, none⟩ = some (.string p.2.x.1) ∧ W.cell? ⟨b, o + i * 6 + 4, none⟩ = some (.int .i64 p.2.x.2) ∧ W.cell? ⟨b, o + i * 6 + 5, none⟩ = some (.slice p.2.a (lenF p.2.l) p.2.c)) ∧ (TmAt W p.1.x p.1.a p.1.c p.1.l ∧ TmAt W p.2.x p.2.a p.2.c p.2.l) ∧ nodesF p.1.l + nodesF p.2.l + 3 ≤ Rows.uptoBulk ds[i].1) →
    ∃ P : List Eq2, P.length = ds.length ∧ (∀ i (h : i < P.length), W.cell? ⟨b, o + i * 6, none⟩ = some (.string P[i].1.x.1) ∧ W.cell? ⟨b, o + i * 6 + 1, none⟩ = some (.int .i64 P[i].1.x.2) ∧ W.cell? ⟨b, o + i * 6 + 2, none⟩ = some (.slice P[i].1.a (lenF P[i].1.l) P[i].1.c) ∧ W.cell? ⟨b, o + i * 6 + 3, none⟩ = some (.string P[i].2.x.1) ∧ W.cell? ⟨b, o + i * 6 + 4, none⟩ = some (.int .i64 P[i].2.x.2) ∧ W.cell? ⟨b, o + i * 6 + 5, none⟩ = some (.slice P[i].2.a (lenF P[i].2.l) P[i].2.c)) ∧ sizeP P ≤ Rows.uptoBulkAll (ds.map (·.1)) ∧ ∀ p ∈ P, TmAt W p.1.x p.1.a p.1.c p.1.l ∧ TmAt W p.2.x p.2.a p.2.c p.2.l
  | [], o, _ => ⟨[], rfl, fun i h => absurd h (by simp), Nat.zero_le _, fun x hx => by cases hx⟩
  | d :: r, o, h => by
    obtain ⟨bl, hl, hk, hn, hs⟩ := eqs_of r (o + 6) (fun i hi => by
      obtain ⟨p, h1, h2⟩ := h (i + 1) (by simpa using hi)
      rw [show o + (i + 1) * 6 = o + 6 + i * 6 by omega] at h1
      exact ⟨p, h1, h2⟩)
    obtain ⟨p, h1, h2, h3⟩ := h 0 (by simp)
    simp only [Nat.zero_mul, Nat.add_zero, List.getElem_cons_zero] at h1 h3
    refine ⟨p :: bl, by simp [hl], fun i hi => ?_, ?_, fun y hy => ?_⟩
    · cases i with
      | zero => simpa using h1
      | succ i =>
        have h4 := hk i (by simpa using hi)
        rw [show o + (i + 1) * 6 = o + 6 + i * 6 by omega]
        simpa using h4
    · have e2 : sizeP (p :: bl) = (nodesF p.1.l + nodesF p.2.l + 3) + sizeP bl := by simp [sizeP]
      rw [e2]
      simp only [List.map_cons, Rows.uptoBulkAll]
      omega
    · rcases List.mem_cons.1 hy with rfl | hy
      · exact h2
      · exact hs y hy
set_option maxRecDepth 100000 in
theorem eqs_open {H : Type} {enc : TypeId × Value → H} {W : World} {fuel : Nat} {v : Value} {y : DataW H × List MemPlace} (hf : DataW.trod enc Try.prog W 0 (fun _ => true) true fuel 34 [v] = some y) (hz : Rows.uptoBulk y.1 ≤ 1048576) :
    ∃ q d P, v = .slice q P.length d ∧ P.length ≤ d ∧ EqsAt W q P ∧ (∀ p ∈ P, TmAt W p.1.x p.1.a p.1.c p.1.l ∧ TmAt W p.2.x p.2.a p.2.c p.2.l) ∧ sizeP P + 1 ≤ Rows.uptoBulk y.1 := by
  rcases DataW.trod_slice Try.underlying34 hf with ⟨hcs, h2⟩ | ⟨ad, len, c, elems, rest, n', hn', hcs, h2, _, hlc, hcm, hlen2, hel, _, _⟩
  · simp at hcs
    subst hcs
    exact ⟨none, 0, [], rfl, Nat.zero_le _, fun i h => absurd h (by simp), fun x hx => (by cases hx), bulk_pos _⟩
  · simp at hcs
    subst hcs
    rw [Try.cells28] at hel
    have hb2 : Rows.uptoBulkAll (elems.map (·.1)) + 1 ≤ Rows.uptoBulk y.1 := by
      simp only [h2, Rows.uptoBulk]; omega
    by_cases hz0 : len = 0
    · subst hz0
      exact ⟨some ad, c, [], rfl, Nat.zero_le _, fun i h => absurd h (by simp), fun x hx => (by cases hx), bulk_pos _⟩
    · have each : ∀ i (hi : i < elems.length), ∃ (A B : Tn) (a b : Option Addr) (c d : Nat), W.cells? 0 (ad.add (i * 6)) 6 = some (eqC A B a b c d) ∧ TmAt W A.1 a c A.2 ∧ TmAt W B.1 b d B.2 ∧ nodesF A.2 + nodesF B.2 + 3 ≤ Rows.uptoBulk elems[i].1 := by
        intro i hi
        have h1 := hel i (by omega)
        rw [List.getElem?_eq_getElem hi] at h1
        cases hc : W.cells? 0 (ad.add (i * 6)) 6 with
        | none => rw [hc] at h1; cases h1
        | some cs' =>
          rw [hc] at h1
          have := bulk_all (List.mem_map_of_mem (f := (·.1)) (List.getElem_mem hi))
          obtain ⟨A, B, a, b, c, d, rfl, h3⟩ := eq_trod h1 (by omega)
          exact ⟨A, B, a, b, c, d, rfl, h3⟩
      obtain ⟨b, off, spot⟩ := ad
      have hspot : spot = none := by
        obtain ⟨A, B, a, b', c', d, h3, _⟩ := each 0 (by omega)
        obtain ⟨_, _, h30⟩ := World.cells?_some h3
        have := h30 0 (by omega)
        unfold eqC at this
        simpa [Addr.add] using World.cell?_spot this
      subst hspot
      obtain ⟨P, h3, h4, h5, h6⟩ := eqs_of (W := W) (b := b) elems off (fun i hi => by
        obtain ⟨A, B, a, b', c', d, h3, hA, hB, hnn⟩ := each i hi
        rw [addr_add] at h3
        obtain ⟨_, _, h30⟩ := World.cells?_some h3
        have q0 := h30 0 (by omega)
        have q1 := h30 1 (by omega)
        have q2 := h30 2 (by omega)
        have q3 := h30 3 (by omega)
        have q4 := h30 4 (by omega)
        have q5 := h30 5 (by omega)
        rw [addr_add] at q0 q1 q2 q3 q4 q5
        exact ⟨(⟨A.1, A.2, a, c'⟩, ⟨B.1, B.2, b', d⟩), ⟨q0, q1, q2, q3, q4, q5⟩, ⟨hA, hB⟩, hnn⟩)
      have hPl : P.length = len := by omega
      subst hPl
      exact ⟨some ⟨b, off, none⟩, c, P, rfl, hlc, fun i hi => ⟨b, off, rfl, h4 i hi⟩, h6, by omega⟩
end Go.Proofs.Ytfnfbljijkjkjaa
namespace Go.Proofs.Ytfnfbljijkjkjaa
open Go.ChangeShapes Go.WideShapes Go.ChangeAt Go.RowKit Go.Deep

set_option maxRecDepth 100000 in
theorem stepFrees_contract (H : Type) (enc : TypeId × Value → H) (W : World) (base : Nat) (args : Array Value) (ds gs : List (DataW H)) (before : List MemPlace)
    (hval : ∀ (j : Nat) t v, Try.f4.params[j]? = some t → args[j]? = some v → Value.okWide Try.prog W .any base t v)
    (hW : DataW.Whole enc Try.prog Try.f4.params.toList Rows.stepFreesSpec.vars false W args.toList ds gs before) (hk : Rows.uptoSmall H (ds ++ gs) = true) :
    Calls Try.prog 4 args W fun e W' => ∃ v, e = .returned v ∧ Rows.stepFreesSpec.post enc Try.prog Try.f4 false true false false W args v W' := by
  have hW' := hW
  obtain ⟨p, q, hA0, hV, rfl, hfz, hnd⟩ := hW
  have hA : DataW.TrodAll enc Try.prog W 0 (fun _ => true) true Try.f4.params.toList args.toList ds p := hA0
  rw [Try.params4] at hA hval
  obtain ⟨v0, vs0, d0, ds0, p0, q0, hargs, rfl, rfl, h0, r0⟩ := trodAll_cons hA
  obtain ⟨v1, vs1, d1, ds1, p1, q1, hargs1, rfl, rfl, h1, r1⟩ := trodAll_cons r0
  obtain ⟨rfl, rfl, rfl⟩ := trodAll_nil r1
  obtain rfl : args = #[v0, v1] := by cases args; simp_all
  obtain ⟨rfl, rfl⟩ := trodVars_none hV
  have lt0 : ∀ x ∈ p0, x.block < W.heap.size := by obtain ⟨m, hm⟩ := h0; exact DataW.trod_lt m _ _ _ hm
  have lt1 : ∀ x ∈ p1, x.block < W.heap.size := by obtain ⟨m, hm⟩ := h1; exact DataW.trod_lt m _ _ _ hm
  have hbulk : Rows.uptoBulk d0 + Rows.uptoBulk d1 ≤ 1048576 := by
    have h : Rows.uptoBulkAll ([d0, d1] ++ []) ≤ 1048576 := of_decide_eq_true hk
    simp only [List.append_nil, Rows.uptoBulkAll] at h
    omega
  obtain ⟨a0, len0, cap0, rfl⟩ := okWide_slice Try.underlying23 (hval 0 23 v0 rfl rfl)
  obtain ⟨a, n, cap, l, e0, hS, hcap, hn⟩ := sig_full (by simp [Value.cells]) h0 (by omega)
  cases e0
  obtain ⟨a1, len1, cap1, rfl⟩ := okWide_slice Try.underlying34 (hval 1 34 v1 rfl rfl)
  obtain ⟨q1, c1, P, e1, hd1, hE, hT, hsz⟩ : ∃ q c P, (.slice a1 len1 cap1 : Value) = .slice q P.length c ∧ P.length ≤ c ∧ EqsAt W q P ∧ (∀ p ∈ P, TmAt W p.1.x p.1.a p.1.c p.1.l ∧ TmAt W p.2.x p.2.a p.2.c p.2.l) ∧ sizeP P + 1 ≤ Rows.uptoBulk d1 := by
    obtain ⟨fuel, hf⟩ := h1
    exact eqs_open (y := (d1, p1)) hf (show Rows.uptoBulk d1 ≤ 1048576 by omega)
  cases e1
  clear hA0
  simp only [List.append_nil] at hW'
  refine (frees_walk head_ok a0 len0 cap0 l P a1 cap1 W hS hT hE hd1 (by omega)).mono fun e W' ⟨he, bel⟩ => ?_
  subst he
  exact ⟨_, rfl, _, _, _, [], _, [], hW', trodAll_mk1 (shut_bool Try.underlying4 _), (trodAll_cons_mk (Below.trod laidOut (by kernel_rfl) (of_decide_eq_true (by kernel_rfl)) h0 bel lt0) (trodAll_cons_mk (Below.trod laidOut (by kernel_rfl) (of_decide_eq_true (by kernel_rfl)) h1 bel lt1) trodAll_mk0)), rfl, bel.frame _, fun h => by cases h⟩

set_option maxRecDepth 100000 in
theorem stepFrees_lifted (os : Os) (started : os.Started) (H : Type) (enc : TypeId × Value → H) (F : Stop.Interp) :
    ReturnsInHanded {} Try.checked os 4 .any ((Rows.OpenSpec.upto Rows.stepFreesSpec).pre6 enc Try.prog Try.f4 Rows.stepFreesUptoRow.domain false) (((Rows.OpenSpec.upto Rows.stepFreesSpec).at F).post enc Try.prog Try.f4 false true false false) := by
  refine returnsInHanded_of_cond (C := Try.checked) (s := Rows.OpenSpec.upto Rows.stepFreesSpec) (k := Rows.uptoSmall) rfl own started (by kernel_rfl) Try.func4
    (OpenSpec.witness (enc := enc) (C := Try.checked) (s := Rows.OpenSpec.upto Rows.stepFreesSpec) (k := Rows.uptoSmall) rfl false ⟨#[], #[.slice none 0 0, .slice none 0 0], []⟩ 8 (by kernel_rfl) (by kernel_rfl) (by kernel_rfl)
      (x := ([.nil, .nil], [], [])) (by kernel_rfl) rfl (by kernel_rfl)) ?_
  intro W base args ds gs before hval hW _ hk _
  exact stepFrees_contract H enc W base args ds gs before hval hW hk

set_option maxRecDepth 100000 in
theorem stepFrees_said : Rows.StepFreesUptoSaid :=
  OpenClaim.holds_of_cond 4 Try.f4 rfl rfl rfl rfl rfl rfl rfl ⟨rfl, rfl, rfl, rfl, rfl⟩ rfl rfl rfl rfl rfl (by kernel_rfl) Try.func4 (by kernel_rfl)
    (of_decide_eq_true (by kernel_rfl)) (by unfold Func.isWrapper; first | (rw [if_pos (by decide +kernel)]; kernel_rfl) | (rw [if_neg (by decide +kernel)]; exact ⟨rfl, rfl⟩))
    (fun os started H enc _ F => stepFrees_lifted os started H enc F)
end Go.Proofs.Ytfnfbljijkjkjaa
