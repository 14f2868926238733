/- Count. -/
import Derived.Test.YtdpdpjfnanjmgaaDoorSpAi
namespace Go.Proofs.YtdpdpjfnanjmgaaDoor
open Go.RowKit Go.Shelf

theorem block_cells {b : Nat} {t : TypeId} {fr : Nat × Nat} : ∀ (vs : List Value) (o : Nat) (W : World) (cs : Array Value), W.heap[b]? = some (.cells cs t fr) → o + vs.length ≤ cs.size → ∃ cs', (W.setCells b o vs).heap[b]? = some (.cells cs' t fr) ∧ cs'.size = cs.size ∧ ∀ i, cs'[i]? = if o ≤ i ∧ i < o + vs.length then vs[i - o]? else cs[i]?
  | [], o, W, cs, h, _ => ⟨cs, h, rfl, fun i => by rw [if_neg (by rw [List.length_nil]; omega)]⟩
  | v :: vs, o, W, cs, h, hl => by
    rw [List.length_cons] at hl
    obtain ⟨cs', h1, h2, h3⟩ := block_cells vs (o + 1) (W.setCell ⟨b, o, none⟩ v) _ (block_set h v) (by rw [Array.size_setIfInBounds]; omega)
    refine ⟨cs', h1, by rw [h2, Array.size_setIfInBounds], fun i => ?_⟩
    rw [h3, List.length_cons]
    by_cases e : i = o
    · subst e
      rw [if_neg (by omega), if_pos (by omega), Array.getElem?_setIfInBounds, if_pos rfl, if_pos (by omega), Nat.sub_self]
      rfl
    · by_cases e2 : o + 1 ≤ i ∧ i < o + 1 + vs.length
      · rw [if_pos e2, if_pos (by omega), show i - o = i - (o + 1) + 1 by omega, List.getElem?_cons_succ]
      · rw [if_neg e2, if_neg (by omega), Array.getElem?_setIfInBounds, if_neg (by omega)]
set_option maxRecDepth 100000 in
theorem TlAt.over {W : World} {b : Nat} {f : Nat → Nat} (h : TlAt W b f) (g : Nat → Nat) : TlAt (W.setCells b 0 (tlC g).toArray.toList) b g := by
  obtain ⟨cs', h1, h2, h3⟩ := block_cells (tlC g) 0 W _ h (by rw [List.size_toArray, tlC_len, tlC_len]; decide)
  have h4 : cs' = (tlC g).toArray := by
    refine Array.ext_getElem? fun i => ?_
    rw [h3, tlC_len, List.getElem?_toArray, List.getElem?_toArray, Nat.sub_zero]
    split
    · rfl
    · rw [List.getElem?_eq_none (by rw [tlC_len]; omega), List.getElem?_eq_none (by rw [tlC_len]; omega)]
  unfold TlAt
  rw [List.toList_toArray, h1, h4]
theorem tally_app {k : List Nat} : ∀ (ms : List Nat) (n : Nat) (A : List Nat), tallyL k (ms ++ [n]) A = (colsN n k).flatMap fun c => (tallyL k ms A).map (· ||| givenN c)
  | [], _, _ => rfl
  | x :: ms, n, A => by
    rw [List.cons_append, tallyL, tally_app ms n]
    rfl
theorem tally_len {k : List Nat} (hk : ∀ x ∈ k, 1 ≤ x) (hT : k.length ≤ 5) : ∀ (ms A : List Nat), (∀ n ∈ ms, n ≤ 6) → (tallyL k ms A).length ≤ 2401 ^ ms.length * A.length
  | [], A, _ => by simp [tallyL]
  | n :: ms, A, h => by
    have h1 := tally_len hk hT ms ((colsN n k).flatMap fun c => A.map (· ||| givenN c)) fun x hx => h x (by simp [hx])
    have h2 := flat_le (l := colsN n k) (f := fun c => A.map (· ||| givenN c)) (b := A.length) fun c _ => by simp
    have h3 := cols_few hk (h n (by simp)) hT
    have h4 : ((colsN n k).flatMap fun c => A.map (· ||| givenN c)).length ≤ 2401 * A.length := Nat.le_trans h2 (Nat.mul_le_mul_right _ h3)
    rw [tallyL, List.length_cons, Nat.pow_succ, Nat.mul_assoc]
    exact Nat.le_trans h1 (Nat.mul_le_mul_left _ h4)
theorem tally_lt {k : List Nat} (hk : ∀ x ∈ k, 1 ≤ x) (hT : k.length ≤ 5) : ∀ (ms A : List Nat), (∀ a ∈ A, a < 32) → ∀ a ∈ tallyL k ms A, a < 32
  | [], _, h => h
  | n :: ms, A, h => tally_lt hk hT ms _ fun a ha => by
    obtain ⟨c, hc, h2⟩ := List.mem_flatMap.1 ha
    obtain ⟨b, hb, rfl⟩ := List.mem_map.1 h2
    exact or32 (h b hb) (given_lt (T := 5) (by have := ((cols_mem hk c).1 hc).1; omega))
set_option maxRecDepth 100000 in
set_option maxHeartbeats 4000000 in
theorem count_bad (a b : Option Addr) (c d : Nat) (m k : List Int) (e : Bool) (most : Int) (w : World) (hM : IntsAt w a m) (hK : IntsAt w b k) (h : chkE m k ≠ 0 ∨ most < 0) :
    Calls Tryd.prog 9 #[.slice a m.length c, .slice b k.length d, .bool e, .int .i64 most] w fun en w' => en = .returned (.tuple #[.int .i64 0, .int .i64 (if chkE m k = 0 then 1 else chkE m k)]) ∧ w' = w := by
  have H := hid (chk_any a b c d m k w hM hK)
  obtain ⟨x, hx⟩ : ∃ x, chkE m k = x := ⟨_, rfl⟩
  rw [hx] at H h ⊢
  clear hM hK hx
  by_cases h0 : x = 0
  · subst h0
    have hneg : most < 0 := h.resolve_left fun h => h rfl
    rw [if_pos rfl]
    clear h
    go_enter Tryd.func9, Tryd.ntmps9
    go_wp2_with fail
    refine H.out.mono ?_
    rintro en w1 ⟨rfl, rfl⟩
    go_wp2_with fail
    refine bodyPost_ret (results_tmp2 rfl _ _ _) rfl ?_
    exact ⟨rfl, rfl⟩
  · rw [if_neg h0]
    have hne : (x != 0) = true := by simpa using h0
    clear h
    go_enter Tryd.func9, Tryd.ntmps9
    go_wp2_with fail
    refine H.out.mono ?_
    rintro en w1 ⟨rfl, rfl⟩
    go_wp2_with fail
    refine bodyPost_ret (results_tmp2 rfl _ _ _) rfl ?_
    exact ⟨rfl, rfl⟩
set_option maxRecDepth 100000 in
set_option maxHeartbeats 8000000 in
theorem count_any (a b : Option Addr) (c d : Nat) (M k : List Nat) (e : Bool) (most : Nat) (w : World) (hM : IntsAt w a (up M)) (hK : IntsAt w b (up k)) (hF : Fine M k) (hmost : most ≤ 9223372036854775807) (hTab : Tab w) :
    Calls Tryd.prog 9 #[.slice a M.length c, .slice b k.length d, .bool e, .int .i64 (most : Int)] w fun en w' => en = .returned (.tuple #[.int .i64 ((min (waysF M k e).length most : Nat) : Int), .int .i64 0]) ∧ Below w.heap.size w w' := by
  obtain ⟨z, hz0⟩ : ∃ z, (waysF M k e).length = z := ⟨_, rfl⟩
  rw [hz0]
  have HZ := hid hz0
  clear hz0
  have H := chk_any a b c d (up M) (up k) w hM hK
  rw [up_len, up_len, fine_chk hF] at H
  have HH := hid H
  obtain ⟨W1, hW1⟩ : ∃ W1, w.alloc (.cells (tlC fun _ => 0).toArray 42) = W1 := ⟨_, rfl⟩
  have hb1 : Below w.heap.size w W1 := by rw [← hW1]; exact alloc_below0 _ _
  have hT1 : TlAt W1 w.heap.size (fun _ => 0) := by rw [← hW1]; exact World.alloc_heap_new w _
  have hz := hz32
  have HN := hid (needless_any b k.length d e W1 hF.takers)
  have HNL := need_lt e hF.takers
  rw [show (if e then allB k.length else 0) = needN e k from rfl] at HN
  obtain ⟨x, hx⟩ : ∃ x, needN e k = x := ⟨_, rfl⟩
  rw [hx] at HN HNL
  have hxz : (x : Int) < 32 := by omega
  have hc1 := hT1.get HNL
  have hfz := hT1.fz x
  have hm0 : ¬ ((most : Int) < 0) := by omega
  have hl5 := hF.few
  have HE := hid fun W => everybody_any b k.length d W hF.takers
  have HF := hid hF; have HM := hid hM; have HK := hid hK; have HB1 := hid hb1; have HT1 := hid hT1; have HTAB := hid hTab; have HX := hid hx
  clear hM hK hF hb1 hT1 hTab hx H
  go_enter Tryd.func9, Tryd.ntmps9
  go_wp2_with fail
  refine HH.out.mono ?_
  rintro en w1 ⟨rfl, rfl⟩
  go_wp2_with fail
  refine HN.out.mono ?_
  rintro en w2 ⟨rfl, rfl⟩
  go_wp2_with fail
  obtain ⟨W3, hW3⟩ : ∃ W3, w2.setCell { block := w1.heap.size, off := x } (Value.int IntKind.i64 1) = W3 := ⟨_, rfl⟩
  rw [hW3]
  have hT3 : TlAt W3 w1.heap.size (fun s => (tallyL k (M.take 0) [needN e k]).count s) := by
    rw [← hW3]
    refine (HT1.out.put x 1).ext fun s _ => ?_
    rw [List.take_zero, tallyL, HX.out, List.count_cons, List.count_nil]
    by_cases h : s = x
    · subst h; rw [if_pos rfl, if_pos (by simp)]
    · rw [if_neg h, if_neg (by simpa using fun h2 => h h2.symm)]
  have hb3 : Below w1.heap.size w1 W3 := by rw [← hW3]; exact HB1.out.setCell (p := ⟨w1.heap.size, x, none⟩) (Nat.le_refl _) _
  have HT3 := hid hT3; have HB3 := hid hb3
  clear hW3 hT3 hb3 hW1 hz hc1 hfz HN HH
  go_loopw [13, 28] (fun _ iv wr => ∃ j : Nat, j ≤ M.length ∧ iv = .int .i64 (j : Int) ∧ TlAt wr w1.heap.size (fun s => (tallyL k (M.take j) [needN e k]).count s) ∧ Below w1.heap.size w1 wr) (fun _ iv _ => M.length - (intOf iv).toNat)
  case atStart => exact ⟨0, Nat.zero_le _, rfl, HT3.out, HB3.out⟩
  case round =>
    obtain ⟨j, hj, rfl, htl, hbr⟩ := hrel
    by_cases hlt : j < M.length
    · obtain ⟨q, o, rfl, hc⟩ := up_int (HM.out.below hbr) hlt
      obtain ⟨n, hn⟩ : ∃ n, M.getD j 0 = n := ⟨_, rfl⟩
      rw [hn] at hc
      have hnm : n ∈ M := by
        rw [← hn, List.getD_eq_getElem?_getD, List.getElem?_eq_getElem hlt]; exact List.getElem_mem _
      obtain ⟨A, hA⟩ : ∃ A, tallyL k (M.take j) [needN e k] = A := ⟨_, rfl⟩
      have hk1 : ∀ x ∈ k, 1 ≤ x := fun x hx => (HF.out.often x hx).1
      have hAl : A.length ≤ 33232930569601 := by
        have h1 := tally_len hk1 HF.out.takers (M.take j) [needN e k] fun n hn => HF.out.small n (List.mem_of_mem_take hn)
        have h2 : (M.take j).length ≤ 4 := by rw [List.length_take]; omega
        have h3 : 2401 ^ (M.take j).length ≤ 2401 ^ 4 := Nat.pow_le_pow_right (by omega) h2
        rw [hA, List.length_singleton, Nat.mul_one] at h1
        exact Nat.le_trans h1 (Nat.le_trans h3 (by decide))
      have hA32 : ∀ a ∈ A, a < 32 := by
        rw [← hA]
        exact tally_lt hk1 HF.out.takers _ _ fun a ha => by rw [List.mem_singleton] at ha; subst ha; exact need_lt e HF.out.takers
      have hnext : tallyL k (M.take (j + 1)) [needN e k] = (colsN n k).flatMap fun c => A.map (· ||| givenN c) := by
        rw [List.take_succ_eq_append_getElem hlt, tally_app, hA]
        rw [List.getD_eq_getElem?_getD, List.getElem?_eq_getElem hlt] at hn
        rw [show M[j] = n from hn]
      rw [hA] at htl
      have HW := hid (with_any A n b d k wr (HK.out.below hbr) ⟨by simp, HF.out.takers, fun x hx => by rw [List.mem_singleton] at hx; subst hx; exact HF.out.small _ hnm, HF.out.often⟩ hA32 hAl (HTAB.out.below hbr))
      have HRG := hid htl.range; have HTH := hid htl; have HBR := hid hbr; have HNX := hid hnext
      clear htl hbr hn hnm hA hk1 hAl hA32 hnext
      go_upto_region 11 with (fail)
      refine wp_region_lit ?_
      refine wpList_step fun KQ hK' => ?_
      refine step_load rfl 42 (.tmp 11) rfl w1.heap.size 0 (by rfl) (tlC fun s => A.count s) _ HRG.out Tryd.underlying42 rfl size42 ?_
      refine hK' _ _ ?_
      clear hK'
      go_wp2_with fail
      refine HW.out.mono ?_
      rintro en w5 ⟨rfl, hb5⟩
      unfold tlV
      rw [← HNX.out]
      rename_i KC hKC
      show KC _ _
      refine hKC _ _ ?_
      clear hKC
      have HT5 := hid (HTH.out.below hb5)
      have HBR5 := hid (HBR.out.trans (hb5.mono HBR.out.size))
      clear hb5
      obtain ⟨A', hA'⟩ : ∃ A', tallyL k (M.take (j + 1)) [needN e k] = A' := ⟨_, rfl⟩
      rw [hA']
      refine wpList_step fun KQ hK' => ?_
      refine step_store_mid rfl 42 (.tmp 11) (.tmp 35) rfl w1.heap.size 0 (tlC fun s => A'.count s).toArray (by rfl) (by rfl) (HT5.out.there _) (by rw [List.size_toArray]; exact size42) (all_oneCell_toArray (tlC_one _)) ?_
      refine hK' _ _ ?_
      clear hK'
      obtain ⟨W6, hW6⟩ : ∃ W6, w5.setCells w1.heap.size 0 (tlC fun s => A'.count s).toArray.toList = W6 := ⟨_, rfl⟩
      have hT6 : TlAt W6 w1.heap.size (fun s => A'.count s) := by rw [← hW6]; exact HT5.out.over _
      have hb6 : Below w1.heap.size w1 W6 := by
        rw [← hW6]
        exact HBR5.out.trans ((fr_setCells _ _ _ _).below (fun q hq => Nat.le_of_eq hq.symm) HBR5.out.size)
      rw [hW6]
      have HT6 := hid hT6; have HB6 := hid hb6; have HA' := hid hA'
      clear hW6 hT6 hb6 hA'
      go_wp2_with fail
      go_roundw
      case rel => exact ⟨j + 1, by omega, by go_num, by rw [HA'.out]; exact HT6.out, HB6.out⟩
      case measure => simp [intOf]; omega
    · have e1 : j = M.length := by omega
      subst e1
      rw [List.take_length] at htl
      obtain ⟨A, hA⟩ : ∃ A, tallyL k M [needN e k] = A := ⟨_, rfl⟩
      have hcnt : A.count (allB k.length) = (waysF M k e).length := by
        rw [← hA]; exact tally_ways fun x hx => (HF.out.often x hx).1
      rw [hA] at htl
      have hab := allB_lt HF.out.takers
      obtain ⟨y, hy⟩ : ∃ y, allB k.length = y := ⟨_, rfl⟩
      rw [hy] at HE hab hcnt
      rw [HZ.out] at hcnt
      have hyz : (y : Int) < 32 := by omega
      have hcy := htl.get hab
      rw [hcnt] at hcy
      have HBR := hid hbr
      clear htl hbr hA hcnt hy
      go_wp2_with fail
      refine (HE.out wr).mono ?_
      rintro en w7 ⟨rfl, rfl⟩
      go_wp2_with fail
      · refine bodyPost_ret (results_tmp2 rfl _ _ _) rfl ?_
        exact ⟨by rw [show min z most = most by omega]; rfl, HBR.out⟩
      · refine bodyPost_ret (results_tmp2 rfl _ _ _) rfl ?_
        exact ⟨by rw [show min z most = z by omega]; rfl, HBR.out⟩
end Go.Proofs.YtdpdpjfnanjmgaaDoor
