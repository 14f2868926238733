/- The walk of BagOf. -/
import Derived.Test.YtlbmamkkbpjafaaBOf
namespace Go.Proofs.Ytlbmamkkbpjafaa
open Go.RowKit Go.Deep

/-- What an append of things leaves. -/
structure AppT (base : Nat) (w : World) (v : Value) (n m : Nat) (xs : List Value) (p' : Option Addr) (c' : Nat) (w' : World) : Prop where
  own : w'.ownsRow base 31 2 (.slice p' (n + m) c') (n + m) xs
  grown : w.grownBy w' v.ownBlock
theorem run_appT (ty base : Nat) (v : Value) (n : Nat) (xs : List Value) (w : World) (hown : w.ownsRow base 31 2 v n xs) (px : Option Addr) (m cx : Nat) (news : List Value)
    (hsrc : (px = none ∧ m = 0 ∧ cx = 0 ∧ news = []) ∨ ∃ ad, px = some ad ∧ news.length = m * 2 ∧ ∀ j u, news[j]? = some u → w.cell? (ad.add j) = some u) (h1 : ∀ u ∈ news, u.oneCell' = true) (hb : n + m ≤ 2097153) (hbase : base ≤ w.heap.size) :
    ∃ p' c' w', (Builtin.append_ #[23, 23] ty #[v, .slice px m cx]).run Try.prog w = .ok (.slice p' (n + m) c') w' ∧ AppT base w v n m (xs ++ news) p' c' w' := by
  obtain ⟨i0, hi0, hz0, hz1, hz2⟩ := info_parts Try.info31
  have form : ∀ {W : World} {v' : Value} {k : Nat} {ys : List Value}, W.ownsRow base 31 2 v' k ys → ∃ p' c', v' = .slice p' k c' := by
    intro W v' k ys h
    rcases h.2 with ⟨h2, h3⟩ | ⟨g, c, _, h2, _⟩
    · exact ⟨none, 0, by rw [h2, h3]⟩
    · exact ⟨_, _, h2⟩
  rcases hsrc with ⟨rfl, rfl, rfl, rfl⟩ | ⟨ad, rfl, hl, hnews⟩
  · obtain ⟨p', c', rfl⟩ := form hown
    refine ⟨p', c', w, run_append_owned_none (P := Try.prog) (w := w) base 23 ty 31 i0 2 Try.underlying23 hi0 _ n xs hown, ?_, World.grownBy.refl _ _⟩
    rw [List.append_nil]
    exact hown
  · obtain ⟨v', w', hr, h2, h3, _, h5⟩ := run_append_own_at (P := Try.prog) w base 23 ty 31 i0 _ 2 16 Try.underlying23 hi0 hz0 hz1 hz2 rfl (by decide) v n xs hown ad m cx news hl hnews h1 (by unfold maxLen; omega) (by omega) hbase
    obtain ⟨p', c', rfl⟩ := form h2
    exact ⟨p', c', w', hr, h2, h3⟩
theorem thAll_one (l : List Th) : ∀ u ∈ thAll l, u.oneCell' = true := fun u hu => by
  obtain ⟨x, _, h⟩ := List.mem_flatMap.1 hu
  simp [thCells] at h
  rcases h with rfl | rfl <;> rfl
theorem src_ths {W : World} {p : Option Addr} {c : Nat} {l : List Th} (h : ThsAt W p l.length l) (hp : p = none → c = 0) : (p = none ∧ l.length = 0 ∧ c = 0 ∧ thAll l = []) ∨ ∃ ad, p = some ad ∧ (thAll l).length = l.length * 2 ∧ ∀ j u, (thAll l)[j]? = some u → W.cell? (ad.add j) = some u := by
  cases hpp : p with
  | none =>
    have hl : l = [] := by
      match l, h with
      | [], _ => rfl
      | x :: r, h =>
        obtain ⟨b, o, h1, _⟩ := h.cells 0 (by simp)
        rw [hpp] at h1
        cases h1
    exact .inl ⟨rfl, by rw [hl]; rfl, hp hpp, by rw [hl]; rfl⟩
  | some ad =>
    refine .inr ⟨ad, rfl, thAll_len l, fun j u hj => ?_⟩
    have hjl : j < l.length * 2 := by
      have := (List.getElem?_eq_some_iff.1 hj).1
      rwa [thAll_len] at this
    obtain ⟨i, k, hk, rfl⟩ : ∃ i k, k < 2 ∧ j = i * 2 + k := ⟨j / 2, j % 2, by omega, by omega⟩
    obtain ⟨b, o, h1, h2, h3⟩ := h.cells i (by omega)
    rw [hpp] at h1
    cases h1
    rw [thAll_at l i (by omega) k hk] at hj
    rw [Addr.add_lit, ← Nat.add_assoc]
    have hk2 : k = 0 ∨ k = 1 := by omega
    rcases hk2 with rfl | rfl
    · rw [Nat.add_zero, h2]; simpa [thCells] using hj
    · rw [h3]; simpa [thCells] using hj
theorem ths_owns {W : World} {base g c n : Nat} {l : List Th} {ys : List Value} (h : W.ownsRow base 31 2 (.slice (some ⟨g, 0, none⟩) n c) n (thAll l ++ ys)) (hn : n ≤ maxLen) (hl : l.length ≤ n) : ThsAt W (some ⟨g, 0, none⟩) l.length l := by
  refine ⟨rfl, Nat.le_trans hl hn, fun i hi => ⟨g, 0, rfl, ?_, ?_⟩⟩ <;> rw [Nat.zero_add]
  · have h2 := h.cells (g := g) rfl (i * 2 + 0) (.int .i64 l[i].1) (by rw [List.getElem?_append_left (by rw [thAll_len]; omega), thAll_at l i hi 0 (by decide)]; rfl)
    rwa [Addr.add_lit, Nat.zero_add] at h2
  · have h2 := h.cells (g := g) rfl (i * 2 + 1) (.int .i64 l[i].2) (by rw [List.getElem?_append_left (by rw [thAll_len]; omega), thAll_at l i hi 1 (by decide)]; rfl)
    rwa [Addr.add_lit, Nat.zero_add] at h2
set_option maxRecDepth 100000 in
set_option maxHeartbeats 8000000 in
theorem bagOf_walk (a : Option Addr) (c : Nat) (l : List Th) (w : World) (hT : ThsAt w a l.length l) (hac : a = none → c = 0) (hn : l.length ≤ 1048576) :
    Calls Try.prog 5 #[.slice a l.length c] w fun e w' => e = .returned (.bool true) ∧ Below w.heap.size w w' := by
  have b0 := alloc_below0 w (.cells #[] 31)
  have hE : (w.alloc (.cells #[] 31)).ownsRow w.heap.size 31 2 (.slice (some ⟨w.heap.size, 0, none⟩) 0 0) 0 [] := ⟨rfl, .inr ⟨w.heap.size, 0, #[], rfl, Nat.le_refl _, World.alloc_heap_new w _, Nat.le_refl _, Nat.zero_le _, rfl, rfl⟩⟩
  obtain ⟨p1, c1, w1, hr1, hA1⟩ := run_appT 23 w.heap.size _ 0 [] _ hE a l.length c (thAll l) (src_ths (hT.below b0) hac) (thAll_one l) (by omega) b0.size
  have hb1 : Below w.heap.size w w1 := b0.trans ((fr_grown hA1.grown).below (fun k hk => by have h7 : some w.heap.size = some k := hk; have := Option.some.inj h7; omega) b0.size)
  have b2 := alloc_below0 w1 (.cells #[.int .i64 77, .int .i64 77] 31)
  have n2 := World.alloc_heap_new w1 (.cells #[.int .i64 77, .int .i64 77] 31)
  have hO2 := owns31_below hA1.own b2
  have hb2 := hb1.trans (b2.mono hb1.size)
  obtain ⟨p3, c3, w3, hr3, hA3⟩ := run_appT 23 w.heap.size _ _ _ _ hO2 (some ⟨w1.heap.size, 0, none⟩) 1 1 (thCells (77, 77)) (.inr ⟨_, rfl, rfl, fun j u hj => by
    rw [Addr.add_lit, Nat.zero_add]
    exact cell_box n2 (by rw [← hj]; simp [thCells])⟩) (fun u hu => by simp [thCells] at hu; rcases hu with rfl | rfl <;> rfl) (by omega) hb2.size
  have hb3 : Below w.heap.size w w3 := hb2.trans ((fr_grown hA3.grown).below (fun k hk => (hO2.lt k hk).1) hb2.size)
  obtain ⟨n, hN⟩ : ∃ n, l.length = n := ⟨_, rfl⟩
  rw [Nat.zero_add] at hr1 hr3
  have hOw := hA3.own
  rw [Nat.zero_add, List.nil_append] at hOw
  obtain ⟨g, hg⟩ : ∃ g, p3 = some ⟨g, 0, none⟩ := by
    rcases hOw.2 with ⟨_, h⟩ | ⟨g, _, _, h, _⟩
    · omega
    · exact ⟨g, (Value.slice.inj h).1⟩
  subst hg
  have hcl : l.length + 1 ≤ c3 := by
    rcases hOw.2 with ⟨h, _⟩ | ⟨g, _, _, h, _, _, h', _⟩
    · cases h
    · rw [(Value.slice.inj h).2.2]; exact h'
  have hth := ths_owns hOw (by unfold maxLen; omega) (Nat.le_succ _)
  have hlast := hOw.cells (g := g) rfl (l.length * 2 + 0) (.int .i64 77) (by rw [List.getElem?_append_right (by rw [thAll_len]; omega), thAll_len]; simp [thCells])
  rw [Addr.add_lit, Nat.zero_add, Nat.add_zero] at hlast
  have HTH := hid hth; have HLAST := hid hlast; have HB3 := hid hb3; have HT := hid (hT.below hb3)
  have HOF := hid (of_any (some ⟨g, 0, none⟩) c3 l w3 hth hn)
  clear hT hE hA1 hA3 hO2 hOw hth hlast b0 b2 n2 hb1 hb2 hb3
  rw [hN] at hr1 hr3 hn hcl HOF ⊢
  have hz1 : (n : Int) ≤ (c3 : Int) := by omega
  have HNN := hid hN
  clear hN
  go_enter Try.func5, Try.ntmps5
  go_upto_region 2 with (first
    | (at_builtin; refine Lib.wpList_append_run _ rfl _ _ _ _ rfl _ _ rfl rfl _ _ hr1 ?_; clear hr1)
    | (at_builtin; refine Lib.wpList_append_run _ rfl _ _ _ _ rfl _ _ rfl rfl _ _ hr3 ?_; clear hr3))
  go_wp2_with fail
  refine HOF.out.mono ?_
  rintro e w4 ⟨B, p, c4, rfl, hA4, hB4, hb4⟩
  have hall := mkP_all l
  have hM := made_any a c l w4 (HT.out.below hb4) (by rw [HNN.out]; exact hn)
  rw [HNN.out] at hM
  have HM := hid hM; have HA4 := hid hA4; have L4 := hid hb4
  clear hM hA4 hb4 HOF
  go_wp2_with fail
  refine HM.out.mono ?_
  rintro e w5 ⟨B5, p5, c5, q, d, rfl, hA5, hO5, hB5, hb5⟩
  have b6 := alloc_below0 w5 (.cells #[.slice q (mkP l).length d] 27)
  have L6 := hid ((L4.out.trans (hb5.mono L4.out.size)).trans (b6.mono (Nat.le_trans L4.out.size hb5.size)))
  have hA6 := (HA4.out.below hb5).below b6
  have hO6 := owns60_below hO5 b6
  have hR := reads_any w3.heap.size B p c4 w4.heap.size q d (mkP l) _ hA6 hO6 hall.1 (by have := len_sum (mkP l) hall.2.1; rw [hall.2.2, HNN.out] at this; omega) hall.2.1 (by rw [hall.2.2, HNN.out]; omega)
  have HR := hid hR
  have y0 : (w5.alloc (.cells #[.slice none 0 0] 27)).cell? ⟨w5.heap.size, 0, none⟩ = some (.slice none 0 0) := cell_box (World.alloc_heap_new w5 _) rfl
  clear hA5 hO5 hb5 b6 hA6 hO6 hR hall HM HA4
  go_wp2_with fail
  generalize w5.alloc (.cells #[.slice q (mkP l).length d] 27) = V6 at L6 HR ⊢
  refine HR.out.mono ?_
  rintro e w7 ⟨rfl, hb7⟩
  have L7 := hid (L6.out.trans (hb7.mono L6.out.size))
  clear hb7 L6 HR L4 y0
  go_wp2_with fail
  go_loopw [7, 8] (fun kv iv wr => ∃ i : Nat, iv = .int .i64 i ∧ kv = .bool true ∧ i ≤ n ∧ Below w3.heap.size w3 wr) (fun _ iv _ => n - (intOf iv).toNat)
  case atStart => exact ⟨0, rfl, rfl, Nat.zero_le _, L7.out⟩
  case round =>
    obtain ⟨i, rfl, rfl, hi, hbl⟩ := hrel
    have HBl := hid hbl
    clear hbl
    by_cases hlt : i < n
    · have hN2 := HNN.out
      obtain ⟨b1, o1, hq1, e1, e2⟩ := (HTH.out.below HBl.out).cells i (by omega)
      cases hq1
      obtain ⟨b2, o2, rfl, e3, e4⟩ := (HT.out.below HBl.out).cells i (by omega)
      rw [Nat.zero_add] at e1 e2
      generalize l[i]'(by omega) = x at e1 e2 e3 e4
      obtain ⟨xk, xm⟩ := x
      dsimp only at e1 e2 e3 e4
      have hiz : (i : Int) < (n : Int) := by omega
      have hne := later_some wr
      have d1 := later_cell e1; have d2 := later_cell e2; have d3 := later_cell e3; have d4 := later_cell e4
      clear e1 e2 e3 e4 hN2
      go_wp2_with fail
      refine wp_region_later (by kernel_rfl) (by kernel_rfl) ?_
      repeat (go_big_quiet_step (fail))
      refine wpQuiet_nil ?_
      intro _ hw'
      obtain ⟨b4, hw''⟩ := hw'
      subst hw''
      have HB4 := hid (HBl.out.trans (b4.below.mono HBl.out.size))
      clear d1 d2 d3 d4 hne
      go_wp2_with fail
      go_roundw
      case rel => exact ⟨i + 1, by go_num, by first | rfl | simp, by omega, HB4.out⟩
      case measure => simp [intOf]; omega
    · have k0 := below_cell HBl.out _ _ HLAST.out
      rw [HNN.out] at k0
      have hz2 : (n : Int) + 1 ≤ (c3 : Int) := by omega
      have hz3 : (n : Int) < (n : Int) + 1 := by omega
      go_wp2_with fail
      go_ret
      exact ⟨rfl, HB3.out.trans (HBl.out.mono HB3.out.size)⟩
end Go.Proofs.Ytlbmamkkbpjafaa
