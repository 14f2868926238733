/- All. -/
import Derived.Test.YtdpdpjfnanjmgaaDoorSpW
import Derived.Test.YtdpdpjfnanjmgaaDoorSpL
import Derived.Laws.CopyRow
namespace Go.Proofs.YtdpdpjfnanjmgaaDoor
open Go.RowKit Go.Shelf

theorem all_bad (a b : Option Addr) (c d : Nat) (m k : List Int) (e : Bool) (w : World) (hM : IntsAt w a m) (hK : IntsAt w b k) (h : chkE m k ≠ 0) :
    Calls Tryd.prog 12 #[.slice a m.length c, .slice b k.length d, .bool e] w fun en w' => en = .returned (.func (.func 25) #[] #[]) ∧ w' = w := by
  have H := hid (chk_any a b c d m k w hM hK)
  have hne : (chkE m k != 0) = true := by simpa using h
  clear hM hK h
  go_enter Tryd.func12, Tryd.ntmps12
  go_wp2_with fail
  refine H.out.mono ?_
  rintro en w1 ⟨rfl, rfl⟩
  go_wp2_with fail
  go_ret
  exact ⟨rfl, rfl⟩
theorem fold_off (o : Nat) : ∀ (l : List Value) (k : Nat) (zs : Array Value), o + k + l.length = zs.size → (List.foldl (fun (cs : Array Value) (x : Value × Nat) => cs.setIfInBounds (o + x.snd) x.fst) zs (l.zipIdx k)).toList = zs.toList.take (o + k) ++ l
  | [], k, zs, h => by
    rw [List.zipIdx_nil, List.foldl_nil, List.append_nil, List.take_of_length_le]
    rw [Array.length_toList]; simp at h; omega
  | x :: l, k, zs, h => by
    rw [List.length_cons] at h
    rw [List.zipIdx_cons, List.foldl_cons, fold_off o l (k + 1) _ (by rw [Array.size_setIfInBounds]; omega), Array.toList_setIfInBounds]
    show (zs.toList.set (o + k) x).take (o + (k + 1)) ++ l = zs.toList.take (o + k) ++ x :: l
    have hk : o + k < zs.toList.length := by rw [Array.length_toList]; omega
    rw [← Nat.add_assoc, List.take_succ_eq_append_getElem (by rw [List.length_set]; exact hk), List.take_set_of_le (Nat.le_refl _), List.getElem_set_self, List.append_assoc]
    rfl
theorem fold44 (K : Nat) (pk : Option Addr) (T ck : Nat) (tb : List Value) (h : tb.length = 42) : List.foldl (fun (cs : Array Value) (x : Value × Nat) => cs.setIfInBounds (2 + x.snd) x.fst) #[Value.int IntKind.i64 (K : Int), Value.slice pk T ck, Value.int IntKind.u32 0, Value.int IntKind.u32 0, Value.int IntKind.u32 0, Value.int IntKind.u32 0, Value.int IntKind.u32 0, Value.int IntKind.u32 0, Value.int IntKind.u32 0, Value.int IntKind.u32 0, Value.int IntKind.u32 0, Value.int IntKind.u32 0, Value.int IntKind.u32 0, Value.int IntKind.u32 0, Value.int IntKind.u32 0, Value.int IntKind.u32 0, Value.int IntKind.u32 0, Value.int IntKind.u32 0, Value.int IntKind.u32 0, Value.int IntKind.u32 0, Value.int IntKind.u32 0, Value.int IntKind.u32 0, Value.int IntKind.u32 0, Value.int IntKind.u32 0, Value.int IntKind.u32 0, Value.int IntKind.u32 0, Value.int IntKind.u32 0, Value.int IntKind.u32 0, Value.int IntKind.u32 0, Value.int IntKind.u32 0, Value.int IntKind.u32 0, Value.int IntKind.u32 0, Value.int IntKind.u32 0, Value.int IntKind.u32 0, Value.int IntKind.u32 0, Value.int IntKind.u32 0, Value.int IntKind.u32 0, Value.int IntKind.u32 0, Value.int IntKind.u32 0, Value.int IntKind.u32 0, Value.int IntKind.u32 0, Value.int IntKind.u32 0, Value.int IntKind.u32 0, Value.int IntKind.u32 0] tb.zipIdx = (Value.int .i64 (K : Int) :: .slice pk T ck :: tb).toArray := by
  refine Array.toList_inj.1 ?_
  have := fold_off 2 tb 0 #[Value.int IntKind.i64 (K : Int), Value.slice pk T ck, Value.int IntKind.u32 0, Value.int IntKind.u32 0, Value.int IntKind.u32 0, Value.int IntKind.u32 0, Value.int IntKind.u32 0, Value.int IntKind.u32 0, Value.int IntKind.u32 0, Value.int IntKind.u32 0, Value.int IntKind.u32 0, Value.int IntKind.u32 0, Value.int IntKind.u32 0, Value.int IntKind.u32 0, Value.int IntKind.u32 0, Value.int IntKind.u32 0, Value.int IntKind.u32 0, Value.int IntKind.u32 0, Value.int IntKind.u32 0, Value.int IntKind.u32 0, Value.int IntKind.u32 0, Value.int IntKind.u32 0, Value.int IntKind.u32 0, Value.int IntKind.u32 0, Value.int IntKind.u32 0, Value.int IntKind.u32 0, Value.int IntKind.u32 0, Value.int IntKind.u32 0, Value.int IntKind.u32 0, Value.int IntKind.u32 0, Value.int IntKind.u32 0, Value.int IntKind.u32 0, Value.int IntKind.u32 0, Value.int IntKind.u32 0, Value.int IntKind.u32 0, Value.int IntKind.u32 0, Value.int IntKind.u32 0, Value.int IntKind.u32 0, Value.int IntKind.u32 0, Value.int IntKind.u32 0, Value.int IntKind.u32 0, Value.int IntKind.u32 0, Value.int IntKind.u32 0, Value.int IntKind.u32 0] (by rw [h]; rfl)
  rw [this]
  rfl
theorem size58 {l : List Value} (h : l.length = 44) : (Tryd.prog.info? 58).map (·.size) = some l.length := by
  rw [h]; kernel_rfl
/-- Who needs nothing. -/
def needN (e : Bool) (k : List Nat) : Nat := if e then allB k.length else 0
set_option maxRecDepth 100000 in
theorem dC_copy (M : List Nat) (hs : Nat) (h : M.length ≤ 5) : (dC ⟨[], [], hs⟩).take 26 ++ cAll (up M) ++ (dC ⟨[], [], hs⟩).drop (26 + (cAll (up M)).length) = dC ⟨[], M, hs⟩ := by
  match M, h with
  | [], _ => rfl
  | [_], _ => rfl
  | [_, _], _ => rfl
  | [_, _, _], _ => rfl
  | [_, _, _, _], _ => rfl
  | [_, _, _, _, _], _ => rfl
  | _ :: _ :: _ :: _ :: _ :: _ :: _, h => simp at h
theorem copy_left (a : Option Addr) (c : Nat) (M : List Nat) (hs F : Nat) (W : World) (hM : IntsAt W a (up M)) (h5 : M.length ≤ 5) (ha : a = none → c = 0) (hF : W.heap[F]? = some (.cells (dC ⟨[], [], hs⟩).toArray 62 (0, 0))) :
    ∃ v W', Sem.run Tryd.prog (Builtin.copy_ #[23, 23] 3 #[.slice (some ⟨F, 26, none⟩) 5 5, .slice a M.length c]) W = .ok v W' ∧ W'.heap[F]? = some (.cells (dC ⟨[], M, hs⟩).toArray 62 (0, 0)) ∧ Fr (fun b => b = F) W W' := by
  obtain ⟨i0, hi0, hz0, hz1, hz2⟩ := info_parts Tryd.info3
  rcases src_i c hM ha with ⟨rfl, h1, rfl, h2⟩ | ⟨ad, rfl, h1, h2⟩
  · have hm : M = [] := List.eq_nil_of_length_eq_zero (by rw [up_len] at h1; exact h1)
    subst hm
    exact ⟨_, W, run_copy_nil Tryd.prog W 23 23 3 3 ⟨F, 26, none⟩ 5 5 Tryd.underlying23 (by rw [hi0]; rfl), hF, Fr.refl _ _⟩
  · have hl : (cAll (up M)).length = M.length := by rw [cAll_len, up_len]
    refine ⟨_, _, run_copy_row Tryd.prog W 23 23 3 3 F 26 5 5 ad M.length c _ 62 (cAll (up M)) Tryd.underlying23 (by rw [hi0]; simp [hz1]) hF (by rw [hl]; exact (Nat.min_eq_left h5).symm) h2 (by rw [hl, List.size_toArray, dC_len]; omega) (cAll_one _), ?_, ?_⟩
    · rw [setRow_heap W F _ _ 62 (0, 0) hF]
      have h9 := dC_copy M hs h5
      simp only
      rw [h9]
    · exact ⟨⟨rfl, rfl, rfl, by simp [World.setRow], fun k hk => absurd hk (Nat.not_lt_zero k)⟩, fun q hq hA => setRow_other W F q _ hA⟩
set_option maxRecDepth 100000 in
set_option maxHeartbeats 4000000 in
theorem all_any (a b : Option Addr) (c d : Nat) (M k : List Nat) (e : Bool) (w : World) (hM : IntsAt w a (up M)) (hK : IntsAt w b (up k)) (h : Fine M k) (ha : a = none → c = 0) :
    Calls Tryd.prog 12 #[.slice a M.length c, .slice b k.length d, .bool e] w fun en w' => ∃ X F pk ck f, en = .returned (.func (.func 28) #[] #[.pointer (some ⟨X, 0, none⟩), .pointer (some ⟨F, 0, none⟩)]) ∧ w.heap.size ≤ X ∧ w.heap.size ≤ F ∧ DlAt w' X M.length pk k.length ck f ∧ Sv k f ∧ CRow w' w.heap.size pk ck (up k) ∧ w'.heap[F]? = some (.cells (dC ⟨[], M, needN e k⟩).toArray 62 (0, 0)) ∧ Below w.heap.size w w' := by
  have H := chk_any a b c d (up M) (up k) w hM hK
  have HC := fun W (hW : Below w.heap.size w W) => clone_any b d (up k) W (hK.below hW) (by rw [up_len]; have := h.takers; omega)
  rw [up_len, up_len, fine_chk h] at H
  have HS := fun W (hW : Below w.heap.size w W) => served_any b d k W h.takers h.often (hK.below hW)
  have HN : ∀ W, Calls Tryd.prog 18 #[.slice b k.length d, .bool e] W fun en w' => en = .returned (.int .i64 ((needN e k : Nat) : Int)) ∧ w' = W := fun W => needless_any b k.length d e W h.takers
  simp only [up_len] at HC
  have H := hid H; have HC := hid HC; have HS := hid HS; have HN := hid HN; have HMM := hid hM; have HF := hid h; have HA := hid ha
  clear hM hK h ha
  go_enter Tryd.func12, Tryd.ntmps12
  go_wp2_with fail
  refine H.out.mono ?_
  rintro en w1 ⟨rfl, rfl⟩
  go_wp2_with fail
  refine (HC.out _ (Below.refl _ _)).mono ?_
  rintro en w2 ⟨q, dq, rfl, hcr, hb2⟩
  have HCR := hid hcr; have HB2 := hid hb2
  clear hcr hb2
  go_wp2_with fail
  refine (HS.out _ HB2.out).mono ?_
  rintro en w3 ⟨rfl, hb3⟩
  have HB3 := hid hb3
  clear hb3
  have hl42 := tabC_len (lvl k k.length)
  obtain ⟨tb, htb⟩ : ∃ tb, tabC (lvl k k.length) = tb := ⟨_, rfl⟩
  rw [htb] at hl42 ⊢
  rename_i KC hKC
  show KC _ _
  refine hKC _ _ ?_
  clear hKC
  refine wpList_step fun KQ hK' => ?_
  have HKK := hid hK'
  clear hK'
  have hf44 := fold44 M.length q k.length dq tb hl42
  go_simp
  clear hf44
  refine HKK.out _ _ ?_
  clear HKK
  obtain ⟨dl, hdl⟩ : ∃ dl, (Value.int .i64 (M.length : Int) :: .slice q k.length dq :: tb) = dl := ⟨_, rfl⟩
  have hdl44 : dl.length = 44 := by rw [← hdl]; simp [hl42]
  have hdl1 : ∀ u ∈ dl, u.oneCell' = true := by
    rw [← hdl, ← htb]
    intro u hu
    rcases List.mem_cons.1 hu with rfl | hu
    · rfl
    · rcases List.mem_cons.1 hu with rfl | hu
      · rfl
      · exact tabC_one _ u hu
  rw [hdl]
  refine wpList_step fun KQ hK' => ?_
  have HKK := hid hK'
  clear hK'
  go_simp
  refine HKK.out _ _ ?_
  clear HKK
  refine wpList_step fun KQ hK' => ?_
  refine step_store_new rfl 58 (.tmp 7) (.tmp 19) rfl _ dl.toArray (by rfl) (by rfl) (by rw [List.size_toArray]; exact size58 hdl44) (by show 44 = dl.toArray.size; rw [List.size_toArray, hdl44]) (all_oneCell_toArray hdl1) ?_
  refine hK' _ _ ?_
  clear hK'
  obtain ⟨W4, hW4⟩ : ∃ W4, w3.alloc (.cells dl.toArray 58) = W4 := ⟨_, rfl⟩
  rw [hW4]
  have hb4 : Below w3.heap.size w3 W4 := by rw [← hW4]; exact alloc_below0 _ _
  have hX4 : W4.heap[w3.heap.size]? = some (.cells dl.toArray 58 (0, 0)) := by rw [← hW4]; exact World.alloc_heap_new w3 _
  have hs4 : W4.heap.size = w3.heap.size + 1 := by rw [← hW4, World.size_alloc]
  have HB4 := hid hb4; have HX4 := hid hX4; have HS4 := hid hs4; have HDL := hid hdl; have HTB := hid htb
  clear hW4 hb4 hX4 hs4 hdl hdl44 hdl1 htb hl42
  go_wp2_with fail
  refine (HN.out W4).mono ?_
  rintro en w5 ⟨rfl, rfl⟩
  obtain ⟨hs, hhs⟩ : ∃ hs, needN e k = hs := ⟨_, rfl⟩
  rw [hhs]
  rename_i KC hKC
  show KC _ _
  refine hKC _ _ ?_
  clear hKC
  iterate 2
    refine wpList_step fun KQ hK' => ?_
    have HKK := hid hK'
    clear hK'
    go_simp
    refine HKK.out _ _ ?_
    clear HKK
  refine wpList_step fun KQ hK' => ?_
  refine step_store_new rfl 62 (.tmp 8) (.tmp 23) rfl _ (dC ⟨[], [], hs⟩).toArray (by rfl) (by rfl) (by rw [List.size_toArray]; exact size62) (by show 32 = (dC _).toArray.size; rw [List.size_toArray, dC_len]) (all_oneCell_toArray (dC_one _)) ?_
  refine hK' _ _ ?_
  clear hK'
  obtain ⟨W6, hW6⟩ : ∃ W6, w5.alloc (.cells (dC ⟨[], [], hs⟩).toArray 62) = W6 := ⟨_, rfl⟩
  rw [hW6]
  have hb6 : Below w5.heap.size w5 W6 := by rw [← hW6]; exact alloc_below0 _ _
  have hX6 : W6.heap[w5.heap.size]? = some (.cells (dC ⟨[], [], hs⟩).toArray 62 (0, 0)) := by rw [← hW6]; exact World.alloc_heap_new w5 _
  have hs6 : W6.heap.size = w5.heap.size + 1 := by rw [← hW6, World.size_alloc]
  have HB6 := hid hb6; have HX6 := hid hX6; have HS6 := hid hs6; have HHS := hid hhs
  clear hW6 hb6 hX6 hs6 hhs
  obtain ⟨v7, W7, hcp, hF7, hFr7⟩ := copy_left a c M hs w5.heap.size W6 (HMM.out.below (HB2.out.trans ((HB3.out.mono HB2.out.size).trans ((HB4.out.mono (Nat.le_trans HB2.out.size HB3.out.size)).trans (HB6.out.mono (Nat.le_trans HB2.out.size (Nat.le_trans HB3.out.size HB4.out.size))))))) HF.out.few HA.out HX6.out
  have HF7 := hid hF7; have HFr7 := hid hFr7
  clear hF7 hFr7
  go_wp2_with fail
  go_ret
  have l2 := HB2.out.size
  have l3 := HB3.out.size
  have l4 := HS4.out
  have l6 := HS6.out
  have hsame : ∀ q', q' < w2.heap.size → W7.heap[q']? = w2.heap[q']? := fun q' hq => (HFr7.out.same q' (by omega) (by omega)).trans ((HB6.out.block q' (by omega)).trans ((HB4.out.block q' (by omega)).trans (HB3.out.block q' hq)))
  refine ⟨w3.heap.size, w5.heap.size, q, dq, lvl k k.length, rfl, by omega, by omega, ?_, lvl_sv HF.out.takers (fun x hx => (HF.out.often x hx).1), HCR.out.same fun b _ hb => hsame b hb, by rw [HHS.out]; exact HF7.out, ?_⟩
  · show W7.heap[w3.heap.size]? = some (.cells (Value.int .i64 (M.length : Int) :: .slice q k.length dq :: tabC (lvl k k.length)).toArray 58 (0, 0))
    rw [HTB.out, HDL.out]
    exact (HFr7.out.same _ (by omega) (by omega)).trans ((HB6.out.block _ (by omega)).trans HX4.out)
  · exact HB2.out.trans ((HB3.out.mono l2).trans ((HB4.out.mono (by omega)).trans ((HB6.out.mono (by omega)).trans (HFr7.out.below (fun q hq => by omega) (by omega)))))
end Go.Proofs.YtdpdpjfnanjmgaaDoor
