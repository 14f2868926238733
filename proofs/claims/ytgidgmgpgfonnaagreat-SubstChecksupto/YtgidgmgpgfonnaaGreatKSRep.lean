import Derived.Deep.RegionLaw
import Derived.Test.YtgidgmgpgfonnaaGreatKSMul
/- What Repeat answers of a list of one variable. -/
namespace Go.Proofs.YtgidgmgpgfonnaaGreat
open Go.RowKit Go.Deep Go.Shelf

abbrev XV : List Value := [.string ⟨#[88]⟩, .int .i64 0, .slice none 0 0]
/-- So many variables X. -/
def xsF : Nat → Fo
  | 0 => .nil
  | k + 1 => .node 0 0 (⟨#[88]⟩, 0) .nil (xsF k)
theorem xsF_len : ∀ k, lenF (xsF k) = k
  | 0 => rfl
  | k + 1 => by rw [xsF, lenF, xsF_len k]
theorem xsF_nodes : ∀ k, nodesF (xsF k) = k
  | 0 => rfl
  | k + 1 => by rw [xsF, nodesF, xsF_nodes k]; simp [nodesF]
theorem xsF_kids {W : World} {V : Nat} : ∀ (k o : Nat), (∀ j, j < k * 3 → W.cell? ⟨V, o + j, none⟩ = XV[j % 3]?) → KidsAt W (xsF k) V o
  | 0, _, _ => trivial
  | k + 1, o, h => by
    have h0 := h 0 (by omega); have h1 := h 1 (by omega); have h2 := h 2 (by omega)
    refine ⟨⟨none, 0, h0, h1, h2, ⟨by decide, Nat.le_refl _, by decide, by decide⟩, .inl rfl⟩, xsF_kids k (o + 3) fun j hj => ?_⟩
    have := h (j + 3) (by omega)
    rw [Nat.add_mod_right] at this
    rw [show o + 3 + j = o + (j + 3) by omega]
    exact this
/-- A row of so many terms, of which the first are X. -/
def XRow (W : World) (V k n : Nat) : Prop := ∃ cur : Array Value, W.heap[V]? = some (.cells cur 27 (0, 0)) ∧ cur.size = k * 3 ∧ ∀ j, j < n * 3 → cur[j]? = XV[j % 3]?
theorem XRow.kids {W : World} {V k : Nat} (h : XRow W V k k) : KidsAt W (xsF k) V 0 := by
  obtain ⟨cur, h1, _, h3⟩ := h
  exact xsF_kids k 0 fun j hj => by rw [cell_of_row W V _ cur 27 (0, 0) h1, Nat.zero_add]; exact h3 j hj
theorem XRow.lt {W : World} {V k n : Nat} (h : XRow W V k n) : V < W.heap.size := by
  obtain ⟨cur, h1, _⟩ := h
  exact (Array.getElem?_eq_some_iff.1 h1).1
theorem cell_heap {W W' : World} {V j : Nat} (h : W'.heap[V]? = W.heap[V]?) : W'.cell? ⟨V, j, none⟩ = W.cell? ⟨V, j, none⟩ := by
  simp only [World.cell?, h]
theorem xsF_far {W W' : World} {V : Nat} (h : W'.heap[V]? = W.heap[V]?) : ∀ (k o : Nat), KidsAt W (xsF k) V o → KidsAt W' (xsF k) V o
  | 0, _, _ => trivial
  | k + 1, o, ⟨⟨a, c, h0, h1, h2, h3, _⟩, hr⟩ => ⟨⟨a, c, (cell_heap h).trans h0, (cell_heap h).trans h1, (cell_heap h).trans h2, h3, .inl rfl⟩, xsF_far h k (o + 3) hr⟩
theorem xv_one {j : Nat} {v : Value} (h : XV[j % 3]? = some v) : v.oneCell' = true := by
  have : j % 3 < 3 := Nat.mod_lt _ (by omega)
  rcases (by omega : j % 3 = 0 ∨ j % 3 = 1 ∨ j % 3 = 2) with e | e | e
  all_goals
    rw [e] at h
    cases h
    rfl
theorem XRow.put {W : World} {V k n m : Nat} (h : XRow W V k n) (cs : List Value) (hc : cs.length = m * 3) (hx : ∀ j, j < m * 3 → cs[j]? = XV[j % 3]?) (hm : n + m ≤ k) : XRow (W.setCells V (n * 3) cs) V k (n + m) := by
  obtain ⟨cur, h1, h2, h3⟩ := h
  have hr := setCells_row cs (n * 3) W cur h1 (by omega)
  refine ⟨_, hr, by simp [ovr]; omega, fun j hj => ?_⟩
  simp only [List.getElem?_toArray]
  unfold ovr
  by_cases hlt : j < n * 3
  · rw [List.append_assoc, List.getElem?_append_left (by simp; omega), List.getElem?_take_of_lt hlt, Array.getElem?_toList]
    exact h3 j hlt
  · rw [List.getElem?_append_left (by simp; omega), List.getElem?_append_right (by simp; omega)]
    simp only [List.length_take, Array.length_toList]
    rw [show min (n * 3) cur.size = n * 3 by omega, hx _ (by omega)]
    congr 1
    omega
/-- The cells of so many X. -/
def xvN : Nat → List Value
  | 0 => []
  | m + 1 => XV ++ xvN m
theorem xvN_len : ∀ m, (xvN m).length = m * 3
  | 0 => rfl
  | m + 1 => by rw [xvN, List.length_append, xvN_len m]; simp; omega
theorem xvN_at : ∀ (m j : Nat), j < m * 3 → (xvN m)[j]? = XV[j % 3]?
  | 0, _, h => by omega
  | m + 1, j, h => by
    rw [xvN]
    by_cases hlt : j < 3
    · rw [List.getElem?_append_left (by simpa using hlt), Nat.mod_eq_of_lt hlt]
    · rw [List.getElem?_append_right (by simp; omega), xvN_at m _ (by simp; omega)]
      congr 1
      simp
      omega
theorem xvN_src {W : World} {V k n m : Nat} (h : XRow W V k n) (hm : m ≤ n) : ∀ j v, (xvN m)[j]? = some v → W.cell? ⟨V, 0 + j, none⟩ = some v := fun j v hj => by
  obtain ⟨cur, h1, h2, h3⟩ := h
  have hlt : j < m * 3 := by rw [← xvN_len m]; exact (List.getElem?_eq_some_iff.1 hj).1
  rw [cell_of_row W V _ cur 27 (0, 0) h1, Nat.zero_add, h3 j (by omega), ← xvN_at m j hlt]
  exact hj
theorem xvN_one (m : Nat) : ∀ v ∈ xvN m, v.oneCell' = true := fun v hv => by
  obtain ⟨j, hj, rfl⟩ := List.getElem_of_mem hv
  have h1 : (xvN m)[j]? = some (xvN m)[j] := List.getElem?_eq_getElem hj
  rw [xvN_at m j (by rw [← xvN_len m]; exact hj)] at h1
  exact xv_one h1
theorem XRow.room {W : World} {V k n m : Nat} (h : XRow W V k n) (hm : n + m ≤ k) : (∀ j, j < (xvN m).length → (W.cell? ⟨V, n * 3 + j, none⟩).isSome = true) ∧ ∀ j, j < (xvN m).length → W.frozen? ⟨V, n * 3 + j, none⟩ = false := by
  obtain ⟨cur, h1, h2, h3⟩ := h
  rw [xvN_len]
  refine ⟨fun j hj => ?_, fun j hj => by simp [World.frozen?, h1]⟩
  rw [cell_of_row W V _ cur 27 (0, 0) h1]
  simp
  omega
/-- A copy of terms as a step of a region that draws its order. -/
theorem step_copyT {ops : Array Oper} {o : Oper} {a : Act} {w : World} {K : Act → World → Prop} {Q : Exit → Act → World → Prop} {E : Prop} (hgd : o.guard = none) (d s : Operand)
    (ho : o.op = .call { callee := .builtin .copy, args := #[d, s], argTypes := #[25, 25] }) (b off dLen dCap : Nat) (ad : Addr) (sLen sCap : Nat) (hd : a.eval d = .slice (some ⟨b, off, none⟩) dLen dCap) (hs : a.eval s = .slice (some ad) sLen sCap)
    (cs : List Value) (hn : cs.length = (Nat.min sLen dLen) * 3) (hsrc : ∀ j v, cs[j]? = some v → w.cell? (ad.add j) = some v)
    (hc : ∀ j, j < cs.length → (w.cell? ⟨b, off + j, none⟩).isSome = true) (hf : ∀ j, j < cs.length → w.frozen? ⟨b, off + j, none⟩ = false) (h1 : ∀ v ∈ cs, v.oneCell' = true)
    (h : K (a.put o.dst (goInt (Nat.min sLen dLen))) (w.setCells b off cs)) :
    if Region.wanted o (yielded ops a.tmps) = true then Oper.wp Tryz.prog o a w K Q else E := by
  have hw : Region.wanted o (yielded ops a.tmps) = true := by simp [Region.wanted, hgd]
  rw [if_pos hw]
  have hrun := run_copyT w o.type b off dLen dCap ad sLen sCap cs hn hsrc hc hf h1
  unfold Oper.wp
  simp [execOp, ho, resolve, invoke, builtin, hd, hs, hrun, Result.andThen]
  exact h
set_option maxRecDepth 100000 in
set_option maxHeartbeats 4000000 in
theorem repeat_any (g k : Nat) (hk : k ≤ 5) (w : World) (hg : w.heap[g]? = some (.cells XV.toArray 27 (0, 0))) :
    Calls Tryz.prog 63 #[.slice (some ⟨g, 0, none⟩) 1 1, .int .i64 k] w fun e w' => ∃ V, e = .returned (.slice (some ⟨V, 0, none⟩) k k) ∧ KidsAt w' (xsF k) V 0 ∧ w.heap.size ≤ V ∧ V < w'.heap.size ∧ Below w.heap.size w w' := by
  obtain ⟨i0, hi, hz0, hz1, hz2⟩ := info_parts Tryz.info27
  have HM := hid (mul_few k (by omega) (by omega) w)
  have HG := hid hg
  have hmax : maxLen = 9223372036854775807 := rfl
  have hlt : g < w.heap.size := (Array.getElem?_eq_some_iff.1 hg).1
  clear hg
  go_enter Tryz.func63, Tryz.ntmps63
  go_wp2_with fail
  refine HM.out.mono ?_
  rintro e w1 ⟨rfl, rfl⟩
  clear HM
  go_upto_region 6 with fail
  go_upto_region 7 with (at_make; refine wpList_make_full _ rfl _ _ 25 rfl w1.heap.size 27 i0 (.agg #[.string ⟨#[]⟩, .int .i64 0, .slice none 0 0]) 3 Tryz.underlying25 hi hz0 hz1 .i64 .i64 _ _ k rfl rfl rfl rfl (by rw [hz2]; omega) (by omega) (Nat.le_refl _) ?_; intro w0 hown0 hgrow0)
  have hbm : Below w1.heap.size w1 w0 := (Below.refl _ _).grown hgrow0 (Nat.le_refl _) (fun k e => by cases e)
  obtain ⟨cur, hcur, hcs⟩ : ∃ cur, w0.heap[w1.heap.size]? = some (.cells cur 27 (0, 0)) ∧ cur.size = k * 3 := by
    rcases hown0.2 with ⟨hv, _⟩ | ⟨g', cap', cur, hv, _, hh, _, _, hcs, _⟩
    · cases hv
    · cases hv
      exact ⟨cur, hh, hcs⟩
  have X0 : XRow w0 w1.heap.size k 0 := ⟨cur, hcur, hcs, fun j hj => absurd hj (by omega)⟩
  have hg0 : w0.heap[g]? = some (.cells XV.toArray 27 (0, 0)) := (hbm.block g hlt).trans HG.out
  obtain ⟨m, hm⟩ : ∃ m, Nat.min 1 k = m := ⟨_, rfl⟩
  have hm1 : m ≤ 1 := by rw [← hm]; exact Nat.min_le_left 1 k
  have hmk : m ≤ k := by rw [← hm]; exact Nat.min_le_right 1 k
  have hm0 : 0 < k → 1 ≤ m := fun h => by rw [← hm]; exact Nat.le_min.2 ⟨Nat.le_refl _, h⟩
  have hr := X0.room (m := m) (by omega)
  have X1 : XRow (w0.setCells w1.heap.size 0 (xvN m)) w1.heap.size k m := by
    have := X0.put (m := m) (xvN m) (xvN_len m) (xvN_at m) (by omega)
    rw [Nat.zero_add, Nat.zero_mul] at this
    exact this
  have hcp := run_copyT w0 3 w1.heap.size 0 k k ⟨g, 0, none⟩ 1 1 (xvN m) (by rw [xvN_len, hm]) (fun j v hj => by
      have hj1 : j < m * 3 := by rw [← xvN_len m]; exact (List.getElem?_eq_some_iff.1 hj).1
      rw [Addr.add_lit, cell_of_row w0 g _ _ 27 (0, 0) hg0, Nat.zero_add]
      rw [xvN_at m j hj1, Nat.mod_eq_of_lt (by omega)] at hj
      simpa using hj) (by simpa using hr.1) (by simpa using hr.2) (xvN_one m)
  rw [hm] at hcp
  have L1 := setCells_low (Nat.le_refl w1.heap.size) (xvN m) 0 w0 hbm
  have HX1 := hid X1; have HL1 := hid L1
  clear X0 X1 L1 hr hg0 hcur hcs hbm hown0 hgrow0
  go_upto_region 8 with fail
  generalize w0.setCells w1.heap.size 0 (xvN m) = W2 at HX1 HL1 hcp ⊢
  clear hcp hm
  obtain ⟨V, hV⟩ : ∃ V, w1.heap.size = V := ⟨_, rfl⟩
  rw [hV] at HX1 HL1 hlt ⊢
  go_loopw [8] (fun iv wr => ∃ (j : Nat), j ≤ k ∧ (0 < k → 1 ≤ j) ∧ iv = .int .i64 j ∧ XRow wr V k j ∧ Below V w1 wr) (fun iv _ => k - (intOf iv).toNat)
  case atStart => exact ⟨m, hmk, hm0, rfl, HX1.out, HL1.out⟩
  case round =>
    obtain ⟨j, hj, hj0, rfl, hX, hL⟩ := hrel
    have HX := hid hX; have HL := hid hL
    clear hX hL HX1 HL1
    by_cases hjk : j < k
    · have hj1 := hj0 (by omega)
      obtain ⟨q, hq⟩ : ∃ q, Nat.min j (k - j) = q := ⟨_, rfl⟩
      have hq1 : q ≤ j := by rw [← hq]; exact Nat.min_le_left _ _
      have hq2 : j + q ≤ k := by have : q ≤ k - j := (by rw [← hq]; exact Nat.min_le_right _ _); omega
      have hq0 : 1 ≤ q := by rw [← hq]; exact Nat.le_min.2 ⟨hj1, by omega⟩
      have hXd : XRow wr.drew V k j := HX.out
      have HR := hid (hXd.room (m := q) hq2)
      have HS := hid (xvN_src hXd hq1)
      have HP := hid (hXd.put (xvN q) (xvN_len q) (xvN_at q) hq2)
      have HQ := hid hq
      have HD := hid (setCells_low (Nat.le_refl V) (xvN q) (j * 3) wr.drew HL.out.drew)
      have HW : Hid (IntKind.i64.wrap ((j : Int) + (q : Int)) = ((j + q : Nat) : Int)) := hid (by rw [IntWalk.i64_in _ ⟨by omega, by omega⟩]; exact (Int.natCast_add j q).symm)
      clear hXd
      clear hq
      go_wp2_with fail
      have hsz : i0.size = 3 := hz1
      go_region_law ((first
        | (refine step_copyT (by rfl) (.tmp 41) (.tmp 44) (by rfl) V (j * 3) (k - j) (k - j) ⟨V, 0, none⟩ j k (by simp [Act.eval, Act.put]; omega) (by simp [Act.eval, Act.put]) (xvN q) (by rw [xvN_len, HQ.out]) (fun i v hi => by rw [Addr.add_lit]; exact HS.out i v hi) HR.out.1 HR.out.2 (xvN_one q) ?_; rw [HQ.out])
        | fail))
      all_goals
        go_wp2_with fail
        go_roundw
        case rel => exact ⟨j + q, by omega, fun _ => by omega, HW.out, HP.out, HD.out⟩
        case measure =>
          have hw := HW.out
          simp only [intOf]
          simp [hw]
          omega
    · have e1 : j = k := by omega
      subst e1
      go_wp2_with fail
      go_ret
      exact ⟨V, rfl, HX.out.kids, by omega, HX.out.lt, by rw [hV]; exact HL.out⟩
end Go.Proofs.YtgidgmgpgfonnaaGreat
