/- The document's find and cut. -/
import Derived.Test.YtchjdpmgocapjaaAgRb
import Derived.Deep.RegionLaw
namespace Go.Proofs.Ytchjdpmgocapjaa
open Go.RowKit Go.Shelf

set_option maxRecDepth 100000 in
set_option maxHeartbeats 2000000 in
theorem rfind_any (B : Nat) (p : Option Addr) (c : Nat) (L : List Th) (t : Int) (w : World) (hB : w.cell? ⟨B, 2, none⟩ = some (.slice p L.length c)) (h : TOwn w (.slice p L.length c) L) (hn : L.length ≤ 65536) : Calls Try.prog 51 #[.pointer (some ⟨B, 0, none⟩), .int .i64 t] w fun e w' => e = .returned (.int .i64 (findI L t)) ∧ w' = w := by
  have HT := hid h
  have hnz : (L.length : Int) ≤ 65536 := by omega
  clear h
  go_enter Try.func51, Try.ntmps51
  go_wp2_with fail
  go_loopw [5] (fun iv wr => wr = w ∧ ∃ i : Nat, iv = .int .i64 i ∧ i ≤ L.length ∧ ∀ j (hj : j < L.length), j < i → L[j].tk ≠ t) (fun iv _ => L.length - (intOf iv).toNat)
  case atStart => exact ⟨rfl, 0, rfl, Nat.zero_le _, fun j _ hj => absurd hj (Nat.not_lt_zero _)⟩
  case round =>
    obtain ⟨rfl, i, rfl, hi, hbe⟩ := hrel
    by_cases hlt : i < L.length
    · obtain ⟨g, cur, rfl, _, hc1, hc2, hg, hcs, hat⟩ := HT.out.some (by omega)
      have hiz : (i : Int) < (L.length : Int) := by omega
      have x1 : wr.cell? ⟨g, i * 3 + 2, none⟩ = some (.int .i64 L[i].tk) := cell_box hg (hat i hlt 2 (by omega))
      have HBE := hid hbe
      by_cases hk : L[i].tk = t
      · have HF := hid (find_at hlt hk (fun j hj => hbe j (by omega) hj))
        have hkk : (L[i].tk == t) = true := by simpa using hk
        generalize L[i].tk = xi at *
        clear hat hg hbe hk
        go_wp2_with fail
        go_ret
        exact ⟨by rw [HF.out]; rfl, rfl⟩
      · have HK := hid hk
        have hkk : (L[i].tk == t) = false := by simpa using hk
        obtain ⟨xi, hxi⟩ : ∃ x, L[i].tk = x := ⟨_, rfl⟩
        have HX := hid hxi
        rw [hxi] at hkk x1
        clear hat hg hbe hk hxi
        go_wp2_with fail
        go_roundw
        case rel =>
          refine ⟨trivial, i + 1, by go_num, by omega, fun j hj hji => ?_⟩
          by_cases hji2 : j = i
          · subst hji2; exact HK.out
          · exact HBE.out j hj (by omega)
        case measure => simp [intOf]; omega
    · have HF := hid (find_no (L := L) (t := t) (fun j hj => hbe j hj (by omega)))
      have hiz : ¬ (i : Int) < (L.length : Int) := by omega
      clear hbe
      go_wp2_with fail
      go_ret
      exact ⟨by rw [HF.out]; rfl, rfl⟩
theorem info85 : (Try.prog.info? 85).map (fun i => (i.zero, i.size, i.bytes)) = some (some (.agg #[.int .i64 0, .int .i64 0, .int .i64 0]), 3, 24) := by kernel_rfl
/-- Things appended to a row of things. -/
theorem app_th (v : Value) (X Y : List Th) (w : World) (h : TOwn w v X) (ad : Addr) (m c : Nat) (hm : Y.length = m) (hsrc : ∀ j u, (thAll Y)[j]? = some u → w.cell? (ad.add j) = some u) (hn : X.length + Y.length ≤ 131072) :
    ∃ v' w', (Builtin.append_ #[48, 48] 48 #[v, .slice (some ad) m c]).run Try.prog w = .ok v' w' ∧ TOwn w' v' (X ++ Y) ∧ Fr (fun q => v.ownBlock = some q) w w' ∧ ∀ g, v'.ownBlock = some g → v.ownBlock = some g ∨ w.heap.size ≤ g := by
  obtain ⟨i0, hi0, hz0, hz1, hz2⟩ := info_parts info85
  subst hm
  obtain ⟨v', w', hr, h2, h3, _, h5⟩ := run_append_own_at (P := Try.prog) w 0 48 48 85 i0 _ 3 24 Try.underlying48 hi0 hz0 hz1 hz2 rfl (by decide) v X.length _ h ad Y.length c (thAll Y) (thAll_len Y) hsrc (all_one' Y) (by unfold maxLen; omega) (by omega) (Nat.zero_le _)
  refine ⟨v', w', hr, ?_, fr_grown h3, fun g hg => ?_⟩
  · unfold TOwn
    rw [thAll_app, List.length_append]
    exact h2
  · rcases h5 with h5 | h5
    · exact .inl (h5 ▸ hg)
    · rw [h5] at hg
      exact .inr (Nat.le_of_eq (Option.some.inj hg))
theorem step_append_run {P : Program} {ops : Array Oper} {o : Oper} {a : Act} {w : World} {K : Act → World → Prop} {Q : Exit → Act → World → Prop} {E : Prop} (hgd : o.guard = none) (s x : Operand) (t : TypeId)
    (ho : o.op = .call { callee := .builtin .append, args := #[s, x], argTypes := #[t, t] }) (vs vx : Value) (hs : a.eval s = vs) (hx : a.eval x = vx)
    (v' : Value) (w' : World) (hr : (Builtin.append_ #[t, t] o.type #[vs, vx]).run P w = .ok v' w') (h : K (a.put o.dst v') w') :
    if Region.wanted o (yielded ops a.tmps) = true then Oper.wp P o a w K Q else E := by
  have hw : Region.wanted o (yielded ops a.tmps) = true := by simp [Region.wanted, hgd]
  rw [if_pos hw]
  exact Lib.wp_append_run w s x t t ho vs vx hs hx v' w' hr h
set_option maxRecDepth 100000 in
set_option maxHeartbeats 4000000 in
theorem cut_any (g c : Nat) (L : List Th) (k : Nat) (hk : k < L.length) (w : World) (h : TOwn w (.slice (some ⟨g, 0, none⟩) L.length c) L) (hn : L.length ≤ 65536) : Calls Try.prog 50 #[.slice (some ⟨g, 0, none⟩) L.length c, .int .i64 k] w fun e w' => ∃ v', e = .returned v' ∧ TOwn w' v' (L.eraseIdx k) ∧ Below w.heap.size w w' ∧ ∀ q, v'.ownBlock = some q → w.heap.size ≤ q := by
  obtain ⟨g', cur, e1, _, hc1, hc2, hg, hcs, hat⟩ := h.some (by omega)
  cases e1
  have b1 := alloc_below0 w (.cells #[] 85)
  have hE : TOwn (w.alloc (.cells #[] 85)).drew (.slice (some ⟨w.heap.size, 0, none⟩) 0 0) [] := ⟨rfl, .inr ⟨w.heap.size, 0, #[], rfl, Nat.zero_le _, World.alloc_heap_new w _, Nat.le_refl _, Nat.zero_le _, rfl, rfl⟩⟩
  have cellAt : ∀ (W : World), W.heap[g]? = some (.cells cur 85 (0, 0)) → ∀ i (hi : i < L.length) q, q < 3 → ∀ u, (thC L[i])[q]? = some u → W.cell? ⟨g, i * 3 + q, none⟩ = some u := fun W hW i hi q hq u hu => cell_box hW ((hat i hi q hq).trans hu)
  have src : ∀ (W : World) (o n : Nat), W.heap[g]? = some (.cells cur 85 (0, 0)) → o + n ≤ L.length → ∀ j u, (thAll ((L.drop o).take n))[j]? = some u → W.cell? ((⟨g, o * 3, none⟩ : Addr).add j) = some u := fun W o n hW hon j u hj => by
    have hl : ((L.drop o).take n).length = n := by rw [List.length_take, List.length_drop]; omega
    have hjl : j < n * 3 := by
      have := (List.getElem?_eq_some_iff.1 hj).1
      rw [thAll_len, hl] at this
      exact this
    have hq := thAll_nth ((L.drop o).take n) (j / 3) (j % 3) (by omega) (by omega)
    rw [show j / 3 * 3 + j % 3 = j by omega, hj] at hq
    have he : ((L.drop o).take n)[j / 3]'(by omega) = L[o + j / 3]'(by omega) := by rw [List.getElem_take, List.getElem_drop]
    rw [he] at hq
    have := cellAt W hW (o + j / 3) (by omega) (j % 3) (by omega) u hq.symm
    rw [Addr.add_lit, show o * 3 + j = (o + j / 3) * 3 + j % 3 by omega]
    exact this
  have hgd : (w.alloc (.cells #[] 85)).drew.heap[g]? = some (.cells cur 85 (0, 0)) := below_blk b1.drew hg
  obtain ⟨v9, w9, hr9, hT9, hf9, hv9⟩ := app_th _ [] ((L.drop 0).take k) _ hE ⟨g, 0 * 3, none⟩ k c (by rw [List.length_take, List.length_drop]; omega) (src _ 0 k hgd (by omega)) (by rw [List.length_take]; simp; omega)
  have hglt : g < w.heap.size := (Array.getElem?_eq_some_iff.1 hg).1
  have hg9 : w9.heap[g]? = some (.cells cur 85 (0, 0)) := (hf9.same g (by show g < (w.alloc (.cells #[] 85)).heap.size; rw [World.size_alloc]; omega) (fun hx => by have h7 : some w.heap.size = some g := hx; have := Option.some.inj h7; omega)).trans hgd
  obtain ⟨k1, hk1e⟩ : ∃ k1, k + 1 = k1 := ⟨_, rfl⟩
  obtain ⟨ad, had, hsrc14⟩ : ∃ ad : Addr, (if c = k1 then some (⟨g, 0, none⟩ : Addr) else some ⟨g, k1 * 3, none⟩) = some ad ∧ ∀ j u, (thAll ((L.drop k1).take (L.length - k1)))[j]? = some u → w9.cell? (ad.add j) = some u := by
    by_cases hck : c = k1
    · rw [if_pos hck]
      refine ⟨_, rfl, fun j u hj => ?_⟩
      rw [show L.length - k1 = 0 by omega, List.take_zero] at hj
      simp [thAll] at hj
    · rw [if_neg hck]
      exact ⟨_, rfl, src _ k1 (L.length - k1) hg9 (by omega)⟩
  obtain ⟨v14, w14, hr14, hT14, hf14, hv14⟩ := app_th v9 _ ((L.drop k1).take (L.length - k1)) w9 hT9 ad (L.length - k1) (c - k1) (by rw [List.length_take, List.length_drop]; omega) hsrc14 (by rw [List.nil_append, List.length_take, List.length_take, List.length_drop, List.length_drop]; omega)
  have hL : [] ++ (L.drop 0).take k ++ (L.drop k1).take (L.length - k1) = L.eraseIdx k := by
    rw [← hk1e, List.eraseIdx_eq_take_drop_succ, List.drop_zero, List.nil_append, List.take_of_length_le (l := L.drop (k + 1)) (by rw [List.length_drop]; exact Nat.le_refl _)]
  rw [hL] at hT14
  have hv9w : ∀ q, v9.ownBlock = some q → w.heap.size ≤ q := fun q hq => by
    rcases hv9 q hq with h1 | h1
    · have h7 : some w.heap.size = some q := h1
      exact Nat.le_of_eq (Option.some.inj h7)
    · have h8 : (w.alloc (.cells #[] 85)).heap.size ≤ q := h1
      rw [World.size_alloc] at h8
      omega
  have hb9 : Below w.heap.size w w9 := (b1.drew).trans (hf9.below (fun q hq => by have h7 : some w.heap.size = some q := hq; exact Nat.le_of_eq (Option.some.inj h7)) (by show w.heap.size ≤ (w.alloc (.cells #[] 85)).heap.size; rw [World.size_alloc]; omega))
  have hb14 : Below w.heap.size w w14 := hb9.trans (hf14.below (fun q hq => hv9w q hq) hb9.size)
  have HEND : Hid (TOwn w14 v14 (L.eraseIdx k) ∧ Below w.heap.size w w14 ∧ ∀ q, v14.ownBlock = some q → w.heap.size ≤ q) := hid ⟨hT14, hb14, fun q hq => by
    rcases hv14 q hq with h1 | h1
    · exact hv9w q h1
    · have := hb9.size; omega⟩
  rw [Nat.zero_mul] at hr9
  have hkz : (k : Int) < (L.length : Int) := by omega
  have hnz : (L.length : Int) ≤ 65536 := by omega
  have hmax : maxLen = 9223372036854775807 := rfl
  have hkc : (k : Int) ≤ (c : Int) := by omega
  have hwr : IntKind.i64.wrap ((k : Int) + 1) = (k1 : Int) := by rw [IntWalk.i64_in _ (by constructor <;> omega)]; omega
  have hk1 : (k1 : Int) ≤ (L.length : Int) := by omega
  have hlc : (L.length : Int) ≤ (c : Int) := by omega
  have hkc' : k ≤ c := by omega
  have hk1' : k1 ≤ L.length := by omega
  clear hk1e hsrc14 hE cellAt src hgd hT9 hf9 hv9 hg9 hT14 hf14 hv14 hL hv9w hb9 hb14 h hat b1
  go_enter Try.func50, Try.ntmps50
  go_wp2_with fail
  go_region_law (first
    | ((with_reducible refine step_append_run ?_ (.tmp 5) (.tmp 8) 48 ?_ _ _ ?_ ?_ _ _ hr9 ?_); (solve | rfl); (solve | rfl); (solve | rfl); (solve | rfl))
    | ((with_reducible refine step_append_run ?_ (.tmp 9) (.tmp 13) 48 ?_ _ _ ?_ ?_ _ _ hr14 ?_); (solve | rfl); (solve | rfl); (solve | rfl); (solve | rfl))
    | fail)
  all_goals
    go_wp2_with fail
    go_ret
    exact ⟨_, rfl, HEND.out⟩
end Go.Proofs.Ytchjdpmgocapjaa
