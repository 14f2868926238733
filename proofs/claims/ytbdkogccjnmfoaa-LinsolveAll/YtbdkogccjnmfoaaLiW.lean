/- Express. -/
import Derived.Test.YtbdkogccjnmfoaaLiV
import Derived.Test.YtbdkogccjnmfoaaLiU
import Derived.Deep.RegionWith
import Derived.Deep.OwnRows
namespace Go.Proofs.Ytbdkogccjnmfoaa
open Go.RowKit Go.Shelf

theorem run_appB (ty base : Nat) (v : Value) (n : Nat) (xs : List Value) (w : World) (hown : w.ownsRow base 3 1 v n xs) (px : Option Addr) (m cx : Nat) (news : List Value)
    (hsrc : (px = none ∧ m = 0 ∧ cx = 0 ∧ news = []) ∨ ∃ ad, px = some ad ∧ news.length = m * 1 ∧ ∀ j u, news[j]? = some u → w.cell? (ad.add j) = some u) (h1 : ∀ u ∈ news, u.oneCell' = true) (hb : n + m ≤ 17592186044416) (hbase : base ≤ w.heap.size) :
    ∃ p' c' w', (Builtin.append_ #[27, 27] ty #[v, .slice px m cx]).run Try.prog w = .ok (.slice p' (n + m) c') w' ∧ w'.ownsRow base 3 1 (.slice p' (n + m) c') (n + m) (xs ++ news) ∧ w.grownBy w' v.ownBlock := by
  obtain ⟨i0, hi0, hz0, hz1, hz2⟩ := info_parts info3
  have form : ∀ {W : World} {v' : Value} {k : Nat} {ys : List Value}, W.ownsRow base 3 1 v' k ys → ∃ p' c', v' = .slice p' k c' := by
    intro W v' k ys h
    rcases h.2 with ⟨h2, h3⟩ | ⟨g, c, _, h2, _⟩
    · exact ⟨none, 0, by rw [h2, h3]⟩
    · exact ⟨_, _, h2⟩
  rcases hsrc with ⟨rfl, rfl, rfl, rfl⟩ | ⟨ad, rfl, hl, hnews⟩
  · obtain ⟨p', c', rfl⟩ := form hown
    refine ⟨p', c', w, run_append_owned_none (P := Try.prog) (w := w) base 27 ty 3 i0 1 Try.underlying27 hi0 _ n xs hown, ?_, World.grownBy.refl _ _⟩
    rw [List.append_nil]
    exact hown
  · obtain ⟨v', w', hr, h2, h3, _, h5⟩ := run_append_own_at (P := Try.prog) w base 27 ty 3 i0 _ 1 8 Try.underlying27 hi0 hz0 hz1 hz2 rfl (by decide) v n xs hown ad m cx news hl hnews h1 (by unfold maxLen; omega) (by omega) hbase
    obtain ⟨p', c', rfl⟩ := form h2
    exact ⟨p', c', w', hr, h2, h3⟩
set_option maxRecDepth 100000 in
set_option maxHeartbeats 2000000 in
/-- Clone. -/
theorem clone_big (p : Option Addr) (c : Nat) (ns : List Int) (w : World) (hI : IntsAt w p ns) (hn : ns.length ≤ 17592186044416) :
    Calls Try.prog 32 #[.slice p ns.length c] w fun e w' => ∃ q d, e = .returned (.slice q ns.length d) ∧ CRow w' w.heap.size q d ns ∧ Below w.heap.size w w' := by
  cases p with
  | none =>
    have hn : ns = [] := by
      rcases Nat.eq_zero_or_pos ns.length with h0 | h0
      · exact List.eq_nil_of_length_eq_zero h0
      · obtain ⟨_, _, h1, _⟩ := hI.cells 0 h0
        cases h1
    subst hn
    have h1 : (binOp .eql 27 (.slice none 0 c) (.slice none 0 0)).run Try.prog w = .ok (.bool true) w := rfl
    clear hI
    show Calls Try.prog 32 #[.slice none 0 c] w _
    go_enter Try.func32, Try.ntmps32
    go_wp2_with fail
    go_ret
    exact ⟨none, 0, rfl, World.ownsRow_nil _ _ _ _, Below.refl _ _⟩
  | some a =>
    have h1 : (binOp .eql 27 (.slice (some a) ns.length c) (.slice none 0 0)).run Try.prog w = .ok (.bool false) w := rfl
    have b1 := alloc_below0 w (.cells #[] 3)
    have hE : (w.alloc (.cells #[] 3)).ownsRow w.heap.size 3 1 (.slice (some ⟨w.heap.size, 0, none⟩) 0 0) 0 [] := ⟨rfl, .inr ⟨w.heap.size, 0, #[], rfl, Nat.le_refl _, World.alloc_heap_new w _, Nat.le_refl _, Nat.zero_le _, rfl, rfl⟩⟩
    obtain ⟨p1, c1, w1, hr1, hA1, hG1⟩ := run_appB 27 w.heap.size _ 0 [] _ hE (some a) ns.length c (cAll ns) (src_i c (hI.below b1) (fun h => by cases h)) (cAll_one ns) (by omega) b1.size
    have hb1 : Below w.heap.size w w1 := b1.trans ((fr_grown hG1).below (fun k hk => by have h7 : some w.heap.size = some k := hk; have := Option.some.inj h7; omega) b1.size)
    rw [Nat.zero_add] at hr1 hA1
    rw [List.nil_append] at hA1
    have HA1 := hid hA1; have HB1 := hid hb1
    clear hE hG1 hA1 hb1 b1 hI
    go_enter Try.func32, Try.ntmps32
    go_wp2_with (first
      | (at_builtin; refine Lib.wpList_append_run _ rfl _ _ _ _ rfl _ _ rfl rfl _ _ hr1 ?_; clear hr1)
      | fail)
    go_ret
    exact ⟨_, _, rfl, HA1.out, HB1.out⟩
theorem make_ints (n : Nat) (hn : n ≤ 17592186044416) (w : World) : (Instr.makeSlice 27 (.int .i64 (n : Int)) (.int .i64 (n : Int))).run Try.prog w = .ok (.slice (some ⟨w.heap.size, 0, none⟩) n n) (w.alloc (.cells (madeCells #[.int .i64 0] n) 3)) :=
  run_make_row' (P := Try.prog) 27 3 (.int .i64 0) 8 Try.underlying27 info3 rfl .i64 .i64 n (by omega) (by omega) w
theorem made_zero (n : Nat) : madeCells #[Value.int .i64 0] n = (cAll (List.replicate n 0)).toArray := by
  unfold madeCells cAll
  refine Array.ext (by simp) (fun i h1 h2 => ?_)
  simp [Nat.mod_one]
theorem cAll_get (l : List Int) (i : Nat) (hi : i < l.length) : (cAll l).toArray[i]? = some (.int .i64 l[i]) := by
  rw [List.getElem?_toArray]
  unfold cAll
  rw [List.getElem?_map, List.getElem?_eq_getElem hi]
  rfl
/-- Numbers in a block of their own. -/
structure Bl (W : World) (g : Nat) (l : List Int) : Prop where
  blk : ∃ cur : Array Value, W.heap[g]? = some (.cells cur 3 (0, 0)) ∧ ∀ i (h : i < l.length), cur[i]? = some (.int .i64 l[i])
theorem Bl.same {W W' : World} {g : Nat} {l : List Int} (h : Bl W g l) (hs : W'.heap[g]? = W.heap[g]?) : Bl W' g l := let ⟨cur, h1, h2⟩ := h.blk; ⟨cur, hs.trans h1, h2⟩
theorem Bl.cell {W : World} {g : Nat} {l : List Int} (h : Bl W g l) (i : Nat) (hi : i < l.length) : W.cell? ⟨g, i, none⟩ = some (.int .i64 l[i]) := let ⟨_, h1, h2⟩ := h.blk; cell_box h1 (h2 i hi)
theorem Bl.free {W : World} {g : Nat} {l : List Int} (h : Bl W g l) (i : Nat) : W.frozen? ⟨g, i, none⟩ = false := let ⟨_, h1, _⟩ := h.blk; free_box h1
theorem Bl.lt {W : World} {g : Nat} {l : List Int} (h : Bl W g l) : g < W.heap.size := let ⟨_, h1, _⟩ := h.blk; (Array.getElem?_eq_some_iff.1 h1).1
theorem Bl.set {W : World} {g : Nat} {l : List Int} (h : Bl W g l) (i : Nat) (x : Int) : Bl (W.setCell ⟨g, i, none⟩ (.int .i64 x)) g (l.set i x) := by
  obtain ⟨cur, h1, h2⟩ := h.blk
  refine ⟨_, block_set h1 _, fun j hj => ?_⟩
  rw [List.length_set] at hj
  have h3 := h2 j hj
  have h4 := (Array.getElem?_eq_some_iff.1 h3).1
  rw [Array.getElem?_setIfInBounds, List.getElem_set]
  by_cases e : i = j
  · subst e; rw [if_pos rfl, if_pos h4, if_pos rfl]
  · rw [if_neg e, if_neg e]; exact h3
theorem Bl.ints {W : World} {g : Nat} {l : List Int} (h : Bl W g l) (hl : l.length ≤ maxLen) : IntsAt W (some ⟨g, 0, none⟩) l := ⟨hl, fun i hi => ⟨g, 0, rfl, by rw [Nat.zero_add]; exact h.cell i hi⟩⟩
theorem CRow.bl {W : World} {base : Nat} {q : Option Addr} {d : Nat} {l : List Int} (h : CRow W base q d l) (hl : 0 < l.length) : ∃ g, q = some ⟨g, 0, none⟩ ∧ base ≤ g ∧ Bl W g l ∧ l.length ≤ d ∧ d ≤ maxLen := by
  rcases h.2 with ⟨_, h0⟩ | ⟨g, cap, cur, h1, h2, h3, h4, h5, h6, h7⟩
  · omega
  · injection h1 with h1 _ hc
    subst h1 hc
    refine ⟨g, rfl, h2, ⟨cur, h3, fun i hi => ?_⟩, h4, h5⟩
    have e1 : (cur.toList.take (l.length * 1))[i]? = (cAll l)[i]? := by rw [h7]
    unfold cAll at e1
    rw [List.getElem?_take_of_lt (by omega), Array.getElem?_toList, List.getElem?_map, List.getElem?_eq_getElem hi] at e1
    exact e1
theorem CRow.blk {W : World} {base : Nat} {q : Option Addr} {d : Nat} {l : List Int} (h : CRow W base q d l) {g : Nat} (hg : q = some ⟨g, 0, none⟩) : base ≤ g ∧ g < W.heap.size := by
  subst hg
  rcases h.2 with ⟨h0, _⟩ | ⟨g', cap, cur, h1, h2, h3, h4⟩
  · cases h0
  · injection h1 with h1 _ _
    injection h1 with h1
    injection h1 with h1 _ _
    subst h1
    exact ⟨h2, (Array.getElem?_eq_some_iff.1 h3).1⟩
/-- May the vectors be? -/
def exprOk (ls : List (List Int)) (v : List Int) : Prop := v.any badC = false ∧ ∀ u ∈ ls, u.length = v.length ∧ u.any badC = false
/-- How far the taking is. -/
theorem expr_step : ∀ (ls : List (List Int)) (v : List Int) (k : Nat) (hk : k < ls.length), (exprA (ls.take (k + 1)) v).1 = (exprA (ls.take k) v).1 ++ [fitN ls[k] (exprA (ls.take k) v).2] ∧ (exprA (ls.take (k + 1)) v).2 = takeN (fitN ls[k] (exprA (ls.take k) v).2) ls[k] (exprA (ls.take k) v).2 := by
  intro ls
  induction ls with
  | nil => intro v k hk; simp at hk
  | cons u us ih =>
    intro v k hk
    cases k with
    | zero => exact ⟨rfl, rfl⟩
    | succ k =>
      have := ih (takeN (fitN u v) u v) k (by simpa using hk)
      simp only [List.take_succ_cons, exprA, List.getElem_cons_succ]
      exact ⟨by rw [this.1]; rfl, this.2⟩
theorem expr_ok : ∀ (ls : List (List Int)) (v : List Int), Cnt v → (∀ u ∈ ls, u.length = v.length ∧ Cnt u) → Cnt (exprA ls v).2 ∧ (exprA ls v).2.length = v.length ∧ (exprA ls v).1.length = ls.length ∧ Cnt (exprA ls v).1 := by
  intro ls
  induction ls with
  | nil => intro v hv _; exact ⟨hv, rfl, rfl, fun x hx => by cases hx⟩
  | cons u us ih =>
    intro v hv h
    obtain ⟨h1, h2⟩ := h u List.mem_cons_self
    have hl := take_len (fitN u v) u v h1
    obtain ⟨q1, q2, q3, q4⟩ := ih (takeN (fitN u v) u v) (take_cnt h2 hv h1) (fun u' hu' => by rw [hl]; exact h u' (List.mem_cons_of_mem _ hu'))
    have hf := fit_ok h2 hv
    refine ⟨q1, q2.trans hl, by simp [exprA, q3], fun x hx => ?_⟩
    simp only [exprA] at hx
    rcases List.mem_cons.1 hx with rfl | hx
    · exact ⟨hf.1, hf.2.1⟩
    · exact q4 x hx
/-- What stands in the row of answers behind k turns. -/
def oftA (ls : List (List Int)) (v : List Int) (k : Nat) : List Int := (exprA (ls.take k) v).1 ++ List.replicate (ls.length - k) 0
/-- What is left behind j numbers of a turn. -/
def lefA (n : Int) (u left : List Int) (j : Nat) : List Int := (takeN n (u.take j) (left.take j)) ++ left.drop j
theorem lef_zero (n : Int) (u left : List Int) : lefA n u left 0 = left := by simp [lefA, takeN]
theorem lef_all (n : Int) (u left : List Int) (h : u.length = left.length) : lefA n u left left.length = takeN n u left := by
  unfold lefA
  rw [List.take_of_length_le (by omega), List.take_length, List.drop_length, List.append_nil]
theorem lef_len (n : Int) (u left : List Int) (h : u.length = left.length) (j : Nat) (hj : j ≤ left.length) : (lefA n u left j).length = left.length := by
  simp [lefA, takeN]; omega
theorem lef_get (n : Int) (u left : List Int) (h : u.length = left.length) (j : Nat) (hj : j < left.length) : (lefA n u left j)[j]? = some left[j] := by
  unfold lefA
  rw [List.getElem?_append_right (by simp [takeN]; omega), List.getElem?_drop]
  have hlen : (takeN n (u.take j) (left.take j)).length = j := by simp [takeN]; omega
  rw [hlen, Nat.sub_self, Nat.add_zero, List.getElem?_eq_getElem hj]
theorem lef_step (n : Int) (u left : List Int) (h : u.length = left.length) (j : Nat) (hj : j < left.length) (hu : j < u.length) : (lefA n u left j).set j (left[j] - n * u[j]) = lefA n u left (j + 1) := by
  have hlen : (takeN n (u.take j) (left.take j)).length = j := by simp [takeN]; omega
  unfold lefA
  rw [List.set_append_right _ _ (by omega), hlen, Nat.sub_self, List.drop_eq_getElem_cons hj, List.set_cons_zero]
  have e1 : u.take (j + 1) = u.take j ++ [u[j]] := by rw [List.take_add_one, List.getElem?_eq_getElem hu]; rfl
  have e2 : left.take (j + 1) = left.take j ++ [left[j]] := by rw [List.take_add_one, List.getElem?_eq_getElem hj]; rfl
  rw [e1, e2]
  unfold takeN
  rw [List.zipWith_append (by simp; omega)]
  simp
/-- What is left, where it lies: away from the answers. -/
def LB (W : World) (base go : Nat) (ql : Option Addr) (l : List Int) : Prop := l = [] ∨ ∃ gl, ql = some ⟨gl, 0, none⟩ ∧ Bl W gl l ∧ gl ≠ go ∧ base ≤ gl
theorem LB.ints {W : World} {base go : Nat} {ql : Option Addr} {l : List Int} (h : LB W base go ql l) (hl : l.length ≤ maxLen) : IntsAt W ql l := by
  rcases h with rfl | ⟨gl, rfl, h, _⟩
  · exact ⟨hl, fun i hi => absurd hi (Nat.not_lt_zero i)⟩
  · exact h.ints hl
theorem LB.other {W W' : World} {base go : Nat} {ql : Option Addr} {l : List Int} (h : LB W base go ql l) (hs : ∀ q, q ≠ go → W'.heap[q]? = W.heap[q]?) : LB W' base go ql l := by
  rcases h with rfl | ⟨gl, h1, h2, h3, h4⟩
  · exact .inl rfl
  · exact .inr ⟨gl, h1, h2.same (hs gl h3), h3, h4⟩
theorem oft_len (ls : List (List Int)) (v : List Int) (k : Nat) (hk : k ≤ ls.length) (hcv : Cnt v) (hcu : ∀ u ∈ ls, u.length = v.length ∧ Cnt u) : (oftA ls v k).length = ls.length := by
  unfold oftA
  have := (expr_ok (ls.take k) v hcv (fun u hu => hcu u (List.mem_of_mem_take hu))).2.2.1
  rw [List.length_append, this, List.length_take, List.length_replicate]
  omega
theorem oft_step (ls : List (List Int)) (v : List Int) (k : Nat) (hk : k < ls.length) (hcv : Cnt v) (hcu : ∀ u ∈ ls, u.length = v.length ∧ Cnt u) : (oftA ls v k).set k (fitN ls[k] (exprA (ls.take k) v).2) = oftA ls v (k + 1) := by
  unfold oftA
  have h1 := (expr_ok (ls.take k) v hcv (fun u hu => hcu u (List.mem_of_mem_take hu))).2.2.1
  rw [List.length_take, Nat.min_eq_left (by omega)] at h1
  rw [(expr_step ls v k hk).1, List.set_append_right _ _ (by omega), h1, Nat.sub_self]
  obtain ⟨m, hm⟩ : ∃ m, ls.length - k = m + 1 := ⟨ls.length - k - 1, by omega⟩
  rw [hm, show ls.length - (k + 1) = m by omega, List.replicate_succ, List.set_cons_zero]
  simp
theorem oft_get (ls : List (List Int)) (v : List Int) (k : Nat) (hk : k < ls.length) (hcv : Cnt v) (hcu : ∀ u ∈ ls, u.length = v.length ∧ Cnt u) : (oftA ls v (k + 1))[k]? = some (fitN ls[k] (exprA (ls.take k) v).2) := by
  rw [← oft_step ls v k hk hcv hcu, List.getElem?_set_self (by rw [oft_len ls v k (by omega) hcv hcu]; exact hk)]
/-- How Express ends. -/
def ExprEnd (ls : List (List Int)) (v : List Int) (w : World) (e : Ending) (w' : World) : Prop := Below w.heap.size w w' ∧ ((¬ exprOk ls v ∧ e = .returned (.tuple #[.slice none 0 0, .bool false])) ∨ (exprOk ls v ∧ ∃ g, e = .returned (.tuple #[.slice (some ⟨g, 0, none⟩) ls.length ls.length, .bool (!(exprA ls v).2.any leftQ)]) ∧ Bl w' g (exprA ls v).1 ∧ w.heap.size ≤ g ∧ ∃ cur, w'.heap[g]? = some (.cells cur 3 (0, 0)) ∧ cur.size = ls.length))
set_option maxRecDepth 100000 in
set_option maxHeartbeats 8000000 in
theorem express_any (a : Option Addr) (c : Nat) (ls : List (List Int)) (q : Option Addr) (d : Nat) (v : List Int) (w : World) (hR : RowsAt w a ls) (hV : IntsAt w q v) (hls : ls.length ≤ 17592186044416) (hvs : v.length ≤ 17592186044416) :
    Calls Try.prog 12 #[.slice a ls.length c, .slice q v.length d] w (ExprEnd ls v w) := by
  have HR := hid hR; have HV := hid hV
  have hmax : maxLen = 9223372036854775807 := rfl
  have HCV := hid (containsC_any q d v w hV)
  clear hR hV
  cases hcv : v.any badC with
  | true =>
    have HNO : Hid (¬ exprOk ls v) := hid (fun h => by rw [h.1] at hcv; cases hcv)
    rw [hcv] at HCV
    clear hcv
    go_enter Try.func12, Try.ntmps12
    go_wp2_with fail
    refine HCV.out.mono ?_
    rintro e w1 ⟨rfl, rfl⟩
    go_wp2_with fail
    go_ret2
    exact ⟨Below.refl _ _, .inl ⟨HNO.out, rfl⟩⟩
  | false =>
  rw [hcv] at HCV
  have HCN := hid hcv
  clear hcv
  go_enter Try.func12, Try.ntmps12
  go_wp2_with fail
  refine HCV.out.mono ?_
  rintro e w1 ⟨rfl, hw1⟩
  subst hw1
  rename World => wo
  clear HCV
  go_wp2_with fail
  go_loopw [18] (fun i wr => ∃ j : Nat, j ≤ ls.length ∧ i = .int .i64 j ∧ wr = wo ∧ ∀ u ∈ ls.take j, u.length = v.length ∧ u.any badC = false) (fun i _ => ls.length - (intOf i).toNat)
  case atStart => exact ⟨0, Nat.zero_le _, rfl, rfl, by simp⟩
  case round =>
    obtain ⟨j, hj, rfl, hwr, hall⟩ := hrel
    subst hwr
    rename World => wo
    by_cases hlt : j < ls.length
    · obtain ⟨b, o, p, d2, rfl, hc, hI⟩ := HR.out.cells j hlt
      have HNB : Hid (ls[j].length = v.length → ls[j].any badC = false → ∀ u ∈ ls.take (j + 1), u.length = v.length ∧ u.any badC = false) := hid (fun h1 h2 u hu => by
        rw [List.take_add_one, List.getElem?_eq_getElem hlt] at hu
        rcases List.mem_append.1 hu with hu | hu
        · exact hall u hu
        · simp at hu; rw [hu]; exact ⟨h1, h2⟩)
      have HNX : Hid (ls[j].length ≠ v.length ∨ ls[j].any badC = true → ¬ exprOk ls v) := hid (fun h hok => by
        have := hok.2 _ (List.getElem_mem hlt)
        rcases h with h | h
        · exact h this.1
        · rw [this.2] at h; cases h)
      have HCU := hid (containsC_any p d2 ls[j] wo hI)
      have hsm := hI.small
      obtain ⟨u, hu⟩ : ∃ u, ls[j] = u := ⟨_, rfl⟩
      rw [hu] at hc HCU HNB HNX hsm
      clear hI hall hu
      by_cases hul : u.length = v.length
      · have hne : ((u.length : Int) != (v.length : Int)) = false := by simp; omega
        cases hub : u.any badC with
        | true =>
          rw [hub] at HCU HNX
          have HNO := hid (HNX.out (.inr rfl))
          have HUL := hid hul
          clear hub hul HNB HNX
          go_wp2_with fail
          refine HCU.out.mono ?_
          rintro e w2 ⟨rfl, rfl⟩
          go_wp2_with fail
          go_ret2
          exact ⟨Below.refl _ _, .inl ⟨HNO.out, rfl⟩⟩
        | false =>
          rw [hub] at HCU
          have HNN := hid (HNB.out hul hub)
          clear hub hul HNB HNX
          go_wp2_with fail
          refine HCU.out.mono ?_
          rintro e w2 ⟨rfl, rfl⟩
          go_wp2_with fail
          go_roundw
          case rel => exact ⟨j + 1, by omega, by go_num, trivial, HNN.out⟩
          case measure => simp [intOf]; omega
      · have hne : ((u.length : Int) != (v.length : Int)) = true := by simp; omega
        have HNO := hid (HNX.out (.inl hul))
        clear hul HNB HNX
        go_wp2_with fail
        go_ret2
        exact ⟨Below.refl _ _, .inl ⟨HNO.out, rfl⟩⟩
    · have e1 : j = ls.length := by omega
      subst e1
      rw [List.take_length] at hall
      have HALL := hid hall
      have HCL : Hid (∀ W, Below wo.heap.size wo W → Calls Try.prog 32 #[.slice q v.length d] W fun e w' => ∃ q d, e = .returned (.slice q v.length d) ∧ CRow w' W.heap.size q d v ∧ Below W.heap.size W w') := hid (fun W hb => clone_big q d v W (HV.out.below hb) hvs)
      have mk0 := make_ints ls.length hls wo.drew
      have HMK : Hid (∀ W, (Instr.makeSlice 27 (.int .i64 (ls.length : Int)) (.int .i64 (ls.length : Int))).run Try.prog W = .ok (.slice (some ⟨W.heap.size, 0, none⟩) ls.length ls.length) (W.alloc (.cells (madeCells #[.int .i64 0] ls.length) 3))) := hid (make_ints ls.length hls)
      clear hall
      go_upto_region 9 with fail
      go_cut [8, 9] (fun lv ov wc => ∃ ql dl go, lv = .slice ql v.length dl ∧ ov = .slice (some ⟨go, 0, none⟩) ls.length ls.length ∧ CRow wc wo.heap.size ql dl v ∧ wo.heap.size ≤ go ∧ wc.heap[go]? = some (.cells (cAll (List.replicate ls.length 0)).toArray 3 (0, 0)) ∧ (∀ g, ql = some ⟨g, 0, none⟩ → g ≠ go) ∧ Below wo.heap.size wo wc)
      case first =>
        go_region_with ((first
          | (go_at_call 32; refine (HCL.out _ (by first | exact (Below.refl _ wo).drew | exact (alloc_below0 wo _).drew)).mono ?_; rintro e w2 ⟨ql, dl, rfl, hC2, hb2⟩; have HC2 := hid hC2; have HB2 := hid hb2; have mk1 := HMK.out w2; clear hC2 hb2)
          | fail))
        all_goals (go_wp2_with fail; go_meet)
        all_goals first
          | exact ⟨ql, dl, w2.heap.size, rfl, rfl, HC2.out.below (alloc_below0 w2 _), HB2.out.size, by rw [World.alloc_heap_new, made_zero], fun g hg => by have := (HC2.out.blk hg).2; omega, ((Below.refl _ wo).drew.trans HB2.out).trans ((alloc_below0 w2 _).mono HB2.out.size)⟩
          | exact ⟨ql, dl, wo.heap.size, rfl, rfl, HC2.out.mono (alloc_below0 wo (.cells (madeCells #[.int .i64 0] ls.length) 3)).size, Nat.le_refl _, by rw [HB2.out.block _ (by show wo.heap.size < (wo.alloc (.cells (madeCells #[.int .i64 0] ls.length) 3)).heap.size; rw [World.size_alloc]; omega), ← made_zero]; exact World.alloc_heap_new wo _, fun g hg => by
              have h1 := (HC2.out.blk hg).1
              have h2 : (wo.alloc (.cells (madeCells #[.int .i64 0] ls.length) 3)).drew.heap.size = wo.heap.size + 1 := World.size_alloc wo _
              omega, (alloc_below0 wo _).drew.trans (HB2.out.mono (alloc_below0 wo (.cells (madeCells #[.int .i64 0] ls.length) 3)).size)⟩
      case rest =>
        obtain ⟨ql, dl, go, rfl, rfl, hC, hgo, hz, hne, hb⟩ := hcut
        have HCV : Hid (Cnt v) := hid ((cnt_iff v).1 HCN.out)
        have HCU : Hid (∀ u ∈ ls, u.length = v.length ∧ Cnt u) := hid (fun u hu => ⟨(HALL.out u hu).1, (cnt_iff u).1 (HALL.out u hu).2⟩)
        have hvl : v.length ≤ maxLen := by omega
        have HST : Hid (LB wc wo.heap.size go ql (exprA (ls.take 0) v).2 ∧ Bl wc go (oftA ls v 0) ∧ Below wo.heap.size wo wc ∧ ∃ cur, wc.heap[go]? = some (.cells cur 3 (0, 0)) ∧ cur.size = ls.length) := hid (by
          have e0 : oftA ls v 0 = List.replicate ls.length 0 := by simp [oftA, exprA]
          have hz' : wc.heap[go]? = some (.cells (cAll (oftA ls v 0)).toArray 3 (0, 0)) := by rw [e0]; exact hz
          refine ⟨?_, ⟨_, hz', fun i hi => cAll_get _ i hi⟩, hb, _, hz, by simp [cAll]⟩
          by_cases hv0 : v.length = 0
          · exact .inl (List.eq_nil_of_length_eq_zero hv0)
          · obtain ⟨gl, h1, h2, h3, _⟩ := hC.bl (by omega)
            exact .inr ⟨gl, h1, h3, hne gl h1, h2⟩)
        clear hC hz hne hb mk0 HMK HCL
        go_wp2_with fail
        go_loopw [39] (fun i wr => ∃ k : Nat, k ≤ ls.length ∧ i = .int .i64 k ∧ LB wr wo.heap.size go ql (exprA (ls.take k) v).2 ∧ Bl wr go (oftA ls v k) ∧ Below wo.heap.size wo wr ∧ ∃ cur, wr.heap[go]? = some (.cells cur 3 (0, 0)) ∧ cur.size = ls.length) (fun i _ => ls.length - (intOf i).toNat)
        case atStart => exact ⟨0, Nat.zero_le _, rfl, HST.out⟩
        case round =>
          obtain ⟨k, hk, rfl, hL, hO, hb, hcur⟩ := hrel
          have hok := expr_ok (ls.take k) v HCV.out (fun u hu => HCU.out u (List.mem_of_mem_take hu))
          by_cases hlt : k < ls.length
          · obtain ⟨b, o, p, d2, rfl, hc0, hI0⟩ := HR.out.cells k hlt
            have hc := below_cell hb _ _ hc0
            have hI := hI0.below hb
            have HI0 := hid hI0
            clear hc0 hI0
            have hu := HCU.out _ (List.getElem_mem hlt)
            obtain ⟨L, hLe⟩ : ∃ L, (exprA (ls.take k) v).2 = L := ⟨_, rfl⟩
            have HES := hid (expr_step ls v k hlt)
            have HOS := hid (oft_step ls v k hlt HCV.out HCU.out)
            have HOG := hid (oft_get ls v k hlt HCV.out HCU.out)
            have HOL := hid (oft_len ls v k hk HCV.out HCU.out)
            rw [hLe] at hL hok HES HOS HOG
            have hfit := fit_ok hu.2 hok.1
            have HF := hid (fits_any p d2 ls[k] ql dl L wr hI (hL.ints (by rw [hok.2.1]; exact hvl)) hu.2 hok.1 (by rw [hok.2.1]; exact hu.1))
            obtain ⟨u, hue⟩ : ∃ u, ls[k] = u := ⟨_, rfl⟩
            rw [hue] at hc HF hu hfit HES HOS HOG HI0
            obtain ⟨n, hn⟩ : ∃ n, fitN u L = n := ⟨_, rfl⟩
            rw [hn] at HF hfit HES HOS HOG
            rw [hu.1, hok.2.1] at HF
            rw [hu.1] at hc
            have c9 := hO.cell k (by rw [HOL.out]; exact hlt)
            have f9 := hO.free k
            generalize (oftA ls v k)[k]'(by rw [HOL.out]; exact hlt) = old9 at c9
            have hO1 : Bl (wr.setCell ⟨go, k, none⟩ (.int .i64 n)) go (oftA ls v (k + 1)) := by rw [← HOS.out]; exact hO.set k n
            have hL1 : LB (wr.setCell ⟨go, k, none⟩ (.int .i64 n)) wo.heap.size go ql L := hL.other (fun q hq => set_far hq _)
            have hb1 : Below wo.heap.size wo (wr.setCell ⟨go, k, none⟩ (.int .i64 n)) := hb.setCell (p := ⟨go, k, none⟩) hgo _
            have hcur1 : ∃ cur, (wr.setCell ⟨go, k, none⟩ (.int .i64 n)).heap[go]? = some (.cells cur 3 (0, 0)) ∧ cur.size = ls.length := by
              obtain ⟨cu, h1, h2⟩ := hcur
              exact ⟨_, block_set h1 _, by simp [h2]⟩
            have HO1 := hid hO1; have HL1 := hid hL1; have HB1 := hid hb1; have HCUR1 := hid hcur1; have HFIT := hid hfit; have HU := hid hu; have HOK := hid hok
            clear hL hO hb hcur hok hue hLe hn hO1 hL1 hb1 hcur1 hfit hu hI
            go_wp2_with fail
            refine HF.out.mono ?_
            rintro e w2 ⟨rfl, hw2⟩
            subst hw2
            rename World => w2
            go_upto_region 14 with fail
            clear c9 f9
            generalize w2.setCell ⟨go, k, none⟩ (.int .i64 n) = W3 at HO1 HL1 HB1 HCUR1 ⊢
            go_wp2_with fail
            go_loopw [52] (fun jv wx => ∃ j : Nat, j ≤ v.length ∧ jv = .int .i64 j ∧ LB wx wo.heap.size go ql (lefA n u L j) ∧ Bl wx go (oftA ls v (k + 1)) ∧ Below wo.heap.size wo wx ∧ ∃ cur, wx.heap[go]? = some (.cells cur 3 (0, 0)) ∧ cur.size = ls.length) (fun jv _ => v.length - (intOf jv).toNat)
            case atStart => exact ⟨0, Nat.zero_le _, rfl, by rw [lef_zero]; exact HL1.out, HO1.out, HB1.out, HCUR1.out⟩
            case round =>
              obtain ⟨j, hj, rfl, hL, hO, hb, hcur⟩ := hrel
              rename World => wx
              have hLl : L.length = v.length := HOK.out.2.1
              have hul : u.length = v.length := HU.out.1
              by_cases hjl : j < v.length
              · rcases hL with hnil | ⟨gl, rfl, hBl, hgn, hgb⟩
                · have h1 := lef_len n u L (by omega) j (by omega)
                  rw [hnil] at h1
                  simp at h1
                  omega
                have hjL : j < L.length := by omega
                have hju : j < u.length := by omega
                obtain ⟨b3, o3, rfl, hcu⟩ := (HI0.out.below hb).cells j hju
                have hfj := HFIT.out.2.2 j hju hjL
                have hcj := HU.out.2.get j hju
                have hlj := HOK.out.1.get j hjL
                have hn0 := HFIT.out.1
                have hlg := lef_get n u L (by omega) j hjL
                have hls := lef_step n u L (by omega) j hjL hju
                have hll := lef_len n u L (by omega) j (by omega)
                have x1 := hBl.cell j (by rw [hll]; exact hjL)
                rw [List.getElem?_eq_getElem (by rw [hll]; exact hjL)] at hlg
                rw [Option.some.inj hlg] at x1
                have hog := HOG.out
                have hkO : k < (oftA ls v (k + 1)).length := by rw [oft_len ls v (k + 1) (by omega) HCV.out HCU.out]; exact hlt
                have x2 := hO.cell k hkO
                rw [List.getElem?_eq_getElem hkO] at hog
                rw [Option.some.inj hog] at x2
                obtain ⟨x, hx⟩ : ∃ x, u[j] = x := ⟨_, rfl⟩
                obtain ⟨y, hy⟩ : ∃ y, L[j] = y := ⟨_, rfl⟩
                rw [hx] at hcu hfj hcj hls
                rw [hy] at x1 hfj hlj hls
                have hp0 := Int.mul_nonneg hn0 hcj.1
                obtain ⟨m, hm⟩ : ∃ m, n * x = m := ⟨_, rfl⟩
                rw [hm] at hfj hp0 hls
                have e1 : IntKind.i64.wrap (n * x) = m := by rw [hm]; exact IntWalk.i64_in _ (by constructor <;> omega)
                have e2 : IntKind.i64.wrap (y - m) = y - m := IntWalk.i64_in _ (by constructor <;> omega)
                have y1 : wx.drew.cell? ⟨gl, j, none⟩ = some (.int .i64 y) := x1
                have y2 : wx.drew.cell? ⟨go, k, none⟩ = some (.int .i64 n) := x2
                have f1 : wx.drew.frozen? ⟨gl, j, none⟩ = false := hBl.free j
                have hfin : ∀ W, W.heap = (wx.setCell ⟨gl, j, none⟩ (.int .i64 (y - m))).heap → Below wo.heap.size wo W → LB W wo.heap.size go (some ⟨gl, 0, none⟩) (lefA n u L (j + 1)) ∧ Bl W go (oftA ls v (k + 1)) ∧ Below wo.heap.size wo W ∧ ∃ cur, W.heap[go]? = some (.cells cur 3 (0, 0)) ∧ cur.size = ls.length := fun W hW hbW => by
                  refine ⟨.inr ⟨gl, rfl, ?_, hgn, hgb⟩, hO.same (by rw [hW]; exact set_far (Ne.symm hgn) _), hbW, ?_⟩
                  · have := hBl.set j (y - m)
                    rw [hls] at this
                    exact this.same (by rw [hW])
                  · obtain ⟨cu, h1, h2⟩ := hcur
                    exact ⟨cu, by rw [hW]; exact (set_far (Ne.symm hgn) _).trans h1, h2⟩
                have hbs : Below wo.heap.size wo (wx.setCell ⟨gl, j, none⟩ (.int .i64 (y - m))).drew := (hb.setCell (p := ⟨gl, j, none⟩) hgb _).drew
                have HFIN := hid (hfin (wx.setCell ⟨gl, j, none⟩ (.int .i64 (y - m))).drew rfl hbs)
                clear hfin hbs hBl hO hb hcur hlg hls hll hog x1 x2 hx hy hm
                go_wp2_with fail
                go_region
                all_goals
                  go_wp2_with fail
                  go_roundw
                  case rel => exact ⟨j + 1, by omega, by go_num, HFIN.out⟩
                  case measure => simp [intOf]; omega
              · have e2 : j = L.length := by omega
                have HFIN : Hid (LB wx wo.heap.size go ql (exprA (ls.take (k + 1)) v).2 ∧ Bl wx go (oftA ls v (k + 1)) ∧ Below wo.heap.size wo wx ∧ ∃ cur, wx.heap[go]? = some (.cells cur 3 (0, 0)) ∧ cur.size = ls.length) := hid (by
                  refine ⟨?_, hO, hb, hcur⟩
                  rw [HES.out.2, ← lef_all n u L (by omega), ← e2]
                  exact hL)
                clear hL hO hb hcur e2
                go_wp2_with fail
                go_roundw
                case rel => exact ⟨k + 1, by omega, by go_num, HFIN.out⟩
                case measure => simp [intOf]; omega
          · have e1 : k = ls.length := by omega
            subst e1
            rw [List.take_length] at hL hok
            have HQ := hid (containsQ_any ql dl (exprA ls v).2 wr (hL.ints (by rw [hok.2.1]; exact hvl)))
            rw [hok.2.1] at HQ
            have HO : Hid (Bl wr go (exprA ls v).1) := hid (by
              have e2 : oftA ls v ls.length = (exprA ls v).1 := by simp [oftA]
              rw [← e2]; exact hO)
            have HB := hid hb; have HCUR := hid hcur
            have HEO : Hid (exprOk ls v) := hid ⟨HCN.out, HALL.out⟩
            obtain ⟨bq, hbq⟩ : ∃ b, (exprA ls v).2.any leftQ = b := ⟨_, rfl⟩
            rw [hbq] at HQ
            have HBQ := hid hbq
            clear hbq
            clear hL hO hb hcur hok
            go_wp2_with fail
            refine HQ.out.mono ?_
            rintro e w2 ⟨rfl, hw2⟩
            subst hw2
            go_wp2_with fail
            go_ret2
            exact ⟨HB.out, .inr ⟨HEO.out, go, by rw [HBQ.out]; rfl, HO.out, hgo, HCUR.out⟩⟩
end Go.Proofs.Ytbdkogccjnmfoaa
