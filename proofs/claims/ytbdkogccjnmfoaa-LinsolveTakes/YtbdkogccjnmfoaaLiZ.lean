/- The document's Express. -/
import Derived.Test.YtbdkogccjnmfoaaLiW
namespace Go.Proofs.Ytbdkogccjnmfoaa
open Go.RowKit Go.Shelf

theorem wrap_add (x y : Int) : IntKind.i64.wrap (IntKind.i64.wrap x + y) = IntKind.i64.wrap (x + y) := by
  rw [IntKind.wrap_i64, IntKind.wrap_i64, IntKind.wrap_i64]
  omega
set_option maxRecDepth 100000 in
theorem rsum_any (p : Option Addr) (c : Nat) (l : List Int) (w : World) (hL : IntsAt w p l) :
    Calls Try.prog 43 #[.slice p l.length c] w fun e w' => e = .returned (.int .i64 (IntKind.i64.wrap l.sum)) ∧ w' = w := by
  have HL := hid hL
  have hmax : maxLen = 9223372036854775807 := rfl
  have hs := hL.small
  clear hL
  go_enter Try.func43, Try.ntmps43
  go_wp2_with fail
  go_loopw [3, 4] (fun nv iv wr => ∃ j : Nat, j ≤ l.length ∧ iv = .int .i64 j ∧ nv = .int .i64 (IntKind.i64.wrap (l.take j).sum) ∧ wr = w) (fun _ iv _ => l.length - (intOf iv).toNat)
  case atStart => exact ⟨0, Nat.zero_le _, rfl, rfl, rfl⟩
  case round =>
    obtain ⟨j, hj, rfl, rfl, hwr⟩ := hrel
    subst hwr
    by_cases hlt : j < l.length
    · obtain ⟨b, o, rfl, hc⟩ := HL.out.cells j hlt
      have e1 : (l.take (j + 1)).sum = (l.take j).sum + l[j] := by rw [List.take_add_one, List.getElem?_eq_getElem hlt, List.sum_append]; simp
      have e2 := wrap_add (l.take j).sum l[j]
      rw [← e1] at e2
      obtain ⟨x, hx⟩ : ∃ x, l[j] = x := ⟨_, rfl⟩
      rw [hx] at hc e2
      obtain ⟨y, hy⟩ : ∃ y, IntKind.i64.wrap (l.take j).sum = y := ⟨_, rfl⟩
      rw [hy] at e2 ⊢
      have HE := hid e2
      obtain ⟨z, hz⟩ : ∃ z, IntKind.i64.wrap (l.take (j + 1)).sum = z := ⟨_, rfl⟩
      rw [hz] at e2
      have HZ := hid hz
      clear e1 hx hy hz HE
      go_wp2_with fail
      go_roundw
      case rel => exact ⟨j + 1, by omega, by go_num, by rw [HZ.out], trivial⟩
      case measure => simp [intOf]; omega
    · have e1 : j = l.length := by omega
      subst e1
      rw [List.take_length]
      go_wp2_with fail
      go_ret
      exact ⟨rfl, rfl⟩
theorem sum_ge : ∀ (l : List Int), Cnt l → 0 ≤ l.sum ∧ l.sum ≤ (l.length : Int) * 1048576 ∧ (l.sum = 0 → l.any leftQ = false) := by
  intro l
  induction l with
  | nil => intro _; exact ⟨Int.le_refl _, by simp, fun _ => rfl⟩
  | cons x l ih =>
    intro h
    obtain ⟨h1, h2, h3⟩ := ih (fun y hy => h y (List.mem_cons_of_mem _ hy))
    have hx := h x List.mem_cons_self
    rw [List.sum_cons, List.length_cons, List.any_cons]
    refine ⟨by omega, by push_cast; rw [Int.add_mul]; omega, fun h0 => ?_⟩
    have : x = 0 := by omega
    rw [this, h3 (by omega)]
    rfl
theorem sum_zero {l : List Int} (h : Cnt l) (hl : l.length ≤ 17592186043904) : (IntKind.i64.wrap l.sum == 0) = !l.any leftQ := by
  obtain ⟨h1, h2, h3⟩ := sum_ge l h
  have h4 : (l.length : Int) * 1048576 ≤ 17592186043904 * 1048576 := Int.mul_le_mul_of_nonneg_right (by omega) (by decide)
  cases hq : l.any leftQ with
  | false =>
    have : l.sum = 0 := by
      have : ∀ x ∈ l, x = 0 := fun x hx => by
        have := List.any_eq_false.1 hq x hx
        unfold leftQ at this
        simpa using this
      clear h1 h2 h3 h4 hq hl h
      induction l with
      | nil => rfl
      | cons y l ih => rw [List.sum_cons, this y List.mem_cons_self, ih (fun x hx => this x (List.mem_cons_of_mem _ hx))]; rfl
    rw [this]
    rfl
  | true =>
    have hne : l.sum ≠ 0 := fun e => by rw [h3 e] at hq; cases hq
    have : IntKind.i64.wrap l.sum ≠ 0 := by
      rw [IntKind.wrap_i64]
      omega
    simpa using this
/-- What is left, where it lies. -/
def LC (W : World) (base top : Nat) (q : Option Addr) (l : List Int) : Prop := l = [] ∨ ∃ gl, q = some ⟨gl, 0, none⟩ ∧ Bl W gl l ∧ base ≤ gl ∧ gl < top
theorem LC.ints {W : World} {base top : Nat} {q : Option Addr} {l : List Int} (h : LC W base top q l) (hl : l.length ≤ maxLen) : IntsAt W q l := by
  rcases h with rfl | ⟨gl, rfl, h, _⟩
  · exact ⟨hl, fun i hi => absurd hi (Nat.not_lt_zero i)⟩
  · exact h.ints hl
theorem LC.same {W W' : World} {base top : Nat} {q : Option Addr} {l : List Int} (h : LC W base top q l) (hs : ∀ b, b < top → W'.heap[b]? = W.heap[b]?) : LC W' base top q l := by
  rcases h with rfl | ⟨gl, h1, h2, h3, h4⟩
  · exact .inl rfl
  · exact .inr ⟨gl, h1, h2.same (hs gl h4), h3, h4⟩
theorem own_blk2 {w : World} {base : Nat} {q : Option Addr} {d : Nat} {l : List Int} (h : CRow w base q d l) {b : Nat} (hq : (Value.slice q l.length d).ownBlock = some b) : ∃ cur, w.heap[b]? = some (.cells cur 3 (0, 0)) ∧ base ≤ b := by
  rcases h.2 with ⟨h0, _⟩ | ⟨g, cap, cur, h1, h2, h3, h4⟩
  · rw [h0] at hq; cases hq
  · rw [h1] at hq
    have : g = b := Option.some.inj hq
    subst this
    exact ⟨cur, h3, h2⟩
/-- All that a turn of the document's Express keeps. -/
structure RX (w : World) (top : Nat) (p1 : Option Addr) (L : List Int) (vo : Value) (O : List Int) (W : World) : Prop where
  left : LC W w.heap.size top p1 L
  out : ∃ qo co, vo = .slice qo O.length co ∧ CRow W top qo co O
  low : Below w.heap.size w W
  sz : top ≤ W.heap.size
  wt : w.heap.size ≤ top
theorem RX.heap {w : World} {top : Nat} {p1 : Option Addr} {L : List Int} {vo : Value} {O : List Int} {W W' : World} (h : RX w top p1 L vo O W) (hs : W'.heap = W.heap) (hb : Below w.heap.size w W') : RX w top p1 L vo O W' := by
  obtain ⟨qo, co, h1, h2⟩ := h.out
  exact ⟨h.left.same (fun b _ => by rw [hs]), ⟨qo, co, h1, h2.same (fun b _ _ => by rw [hs])⟩, hb, by rw [hs]; exact h.sz, h.wt⟩
theorem RX.drewN {w : World} {top : Nat} {p1 : Option Addr} {L : List Int} {vo : Value} {O : List Int} {W : World} (h : RX w top p1 L vo O W) (n : Nat) : RX w top p1 L vo O (W.drewN n) := h.heap rfl ⟨h.low.os, h.low.tape, h.low.output, h.low.size, h.low.block⟩
theorem RX.set {w : World} {top gl : Nat} {L : List Int} {vo : Value} {O : List Int} {W : World} (h : RX w top (some ⟨gl, 0, none⟩) L vo O W) (hB : Bl W gl L) (hg : w.heap.size ≤ gl) (hgt : gl < top) (j : Nat) (x : Int) : RX w top (some ⟨gl, 0, none⟩) (L.set j x) vo O (W.setCell ⟨gl, j, none⟩ (.int .i64 x)) := by
  obtain ⟨qo, co, h1, h2⟩ := h.out
  exact ⟨.inr ⟨gl, rfl, hB.set j x, hg, hgt⟩, ⟨qo, co, h1, h2.same (fun b hb _ => set_far (by omega) _)⟩, h.low.setCell (p := ⟨gl, j, none⟩) hg _, by rw [show (W.setCell ⟨gl, j, none⟩ (.int .i64 x)).heap.size = W.heap.size by simp [World.setCell]]; exact h.sz, h.wt⟩
/-- How the document's Express ends. -/
def RExprEnd (ls : List (List Int)) (v : List Int) (w : World) (e : Ending) (w' : World) : Prop := Below w.heap.size w w' ∧ ((¬ exprOk ls v ∧ e = .returned (.tuple #[.slice none 0 0, .bool false])) ∨ (exprOk ls v ∧ ∃ qo co, e = .returned (.tuple #[.slice qo ls.length co, .bool (!(exprA ls v).2.any leftQ)]) ∧ CRow w' w.heap.size qo co (exprA ls v).1))
/-- The number -1 for none. -/
def accI (acc : Option Int) : Int := acc.getD (-1)
set_option maxRecDepth 100000 in
set_option maxHeartbeats 8000000 in
theorem rexpress_any (a : Option Addr) (c : Nat) (ls : List (List Int)) (q : Option Addr) (d : Nat) (v : List Int) (w : World) (hR : RowsAt w a ls) (hV : IntsAt w q v) (hq : q = none → d = 0) (hls : ls.length ≤ 5864062014634) (hvs : v.length ≤ 17592186043904) :
    Calls Try.prog 28 #[.slice a ls.length c, .slice q v.length d] w (RExprEnd ls v w) := by
  have hmax : maxLen = 9223372036854775807 := rfl
  have b1 := alloc_below0 w (.cells #[] 3)
  have hE : (w.alloc (.cells #[] 3)).ownsRow w.heap.size 3 1 (.slice (some ⟨w.heap.size, 0, none⟩) 0 0) 0 [] := ⟨rfl, .inr ⟨w.heap.size, 0, #[], rfl, Nat.le_refl _, World.alloc_heap_new w _, Nat.le_refl _, Nat.zero_le _, rfl, rfl⟩⟩
  obtain ⟨p1, c1, w1, hr1, hA1, hG1⟩ := run_appB 27 w.heap.size _ 0 [] _ hE q v.length d (cAll v) (src_i d (hV.below b1) hq) (cAll_one v) (by omega) b1.size
  have hb1 : Below w.heap.size w w1 := b1.trans ((fr_grown hG1).below (fun k hk => by have h7 : some w.heap.size = some k := hk; have := Option.some.inj h7; omega) b1.size)
  rw [Nat.zero_add] at hr1 hA1
  rw [List.nil_append] at hA1
  have HC1 : Hid (CRow w1 w.heap.size p1 c1 v) := hid hA1
  have HB1 := hid hb1; have HR1 := hid hr1
  have HR0 := hid hR
  have HR := hid (hR.below hb1); have HV := hid (hV.below hb1)
  clear b1 hE hA1 hG1 hb1 hr1 hR hV
  go_enter Try.func28, Try.ntmps28
  go_wp2_with (first
    | (at_builtin; refine Lib.wpList_append_run _ rfl _ _ _ _ rfl _ _ rfl rfl _ _ HR1.out ?_; clear HR1)
    | fail)
  -- the vector's numbers
  go_loopw [7] (fun i wr => ∃ j : Nat, j ≤ v.length ∧ i = .int .i64 j ∧ wr = w1 ∧ ∀ x ∈ v.take j, badC x = false) (fun i _ => v.length - (intOf i).toNat)
  case atStart => exact ⟨0, Nat.zero_le _, rfl, rfl, by simp⟩
  case round =>
    obtain ⟨j, hj, rfl, hwr, hall⟩ := hrel
    subst hwr
    rename World => w1
    by_cases hlt : j < v.length
    · obtain ⟨b, o, rfl, hc⟩ := HV.out.cells j hlt
      have HNB : Hid (badC v[j] = false → ∀ x ∈ v.take (j + 1), badC x = false) := hid (fun h1 x hx => by
        rw [List.take_add_one, List.getElem?_eq_getElem hlt] at hx
        rcases List.mem_append.1 hx with hx | hx
        · exact hall x hx
        · simp at hx; rw [hx]; exact h1)
      have HNX : Hid (badC v[j] = true → ¬ exprOk ls v) := hid (fun h hok => by
        have := List.any_eq_false.1 hok.1 v[j] (List.getElem_mem hlt)
        exact this h)
      obtain ⟨x, hx⟩ : ∃ x, v[j] = x := ⟨_, rfl⟩
      rw [hx] at hc HNB HNX
      clear hx hall
      by_cases h0 : x < 0
      · have HNO := hid (HNX.out (by unfold badC; simp [h0]))
        clear HNB HNX
        go_wp2_with fail
        go_ret2
        exact ⟨HB1.out, .inl ⟨HNO.out, rfl⟩⟩
      · by_cases h1 : 1048576 < x
        · have HNO := hid (HNX.out (by unfold badC; simp [h1]))
          clear HNB HNX
          go_wp2_with fail
          go_ret2
          exact ⟨HB1.out, .inl ⟨HNO.out, rfl⟩⟩
        · have HNN := hid (HNB.out (by unfold badC; simp; omega))
          clear HNB HNX
          go_wp2_with fail
          go_roundw
          case rel => exact ⟨j + 1, by omega, by go_num, trivial, HNN.out⟩
          case measure => simp [intOf]; omega
    · have e1 : j = v.length := by omega
      subst e1
      rw [List.take_length] at hall
      have HCV : Hid (v.any badC = false) := hid (List.any_eq_false.2 (fun x hx => by rw [hall x hx]; simp))
      clear hall
      go_wp2_with fail
      -- the vectors
      go_loopw [8] (fun i wr => ∃ j : Nat, j ≤ ls.length ∧ i = .int .i64 j ∧ wr = w1 ∧ ∀ u ∈ ls.take j, u.length = v.length ∧ u.any badC = false) (fun i _ => ls.length - (intOf i).toNat)
      case atStart => exact ⟨0, Nat.zero_le _, rfl, rfl, by simp⟩
      case round =>
        obtain ⟨j, hj, rfl, hwr, hall⟩ := hrel
        subst hwr
        rename World => w1
        by_cases hlt : j < ls.length
        · obtain ⟨b, o, p, d2, rfl, hc, hI⟩ := HR.out.cells j hlt
          have HNB : Hid (ls[j].length = v.length → ls[j].any badC = false → ∀ u ∈ ls.take (j + 1), u.length = v.length ∧ u.any badC = false) := hid (fun h1 h2 u hu => by
            rw [List.take_add_one, List.getElem?_eq_getElem hlt] at hu
            rcases List.mem_append.1 hu with hu | hu
            · exact hall u hu
            · simp at hu; rw [hu]; exact ⟨h1, h2⟩)
          have HNX : Hid (ls[j].length ≠ v.length ∨ ls[j].any badC = true → ¬ exprOk ls v) := hid (fun h hok => by
            have := hok.2 _ (List.getElem_mem hlt)
            rcases h with h | h
            · exact h this.1
            · rw [this.2] at h; cases h)
          have hsm := hI.small
          obtain ⟨u, hu⟩ : ∃ u, ls[j] = u := ⟨_, rfl⟩
          rw [hu] at hc HNB HNX hsm hI
          have HI := hid hI
          clear hI hall hu
          by_cases hul : u.length = v.length
          · have hne : ((u.length : Int) != (v.length : Int)) = false := by simp; omega
            have HUL := hid hul
            clear hul
            go_wp2_with fail
            go_loopw [9] (fun i wr => ∃ k : Nat, k ≤ u.length ∧ i = .int .i64 k ∧ wr = w1 ∧ ∀ x ∈ u.take k, badC x = false) (fun i _ => u.length - (intOf i).toNat)
            case atStart => exact ⟨0, Nat.zero_le _, rfl, rfl, by simp⟩
            case round =>
              obtain ⟨k, hk, rfl, hwr, hal2⟩ := hrel
              subst hwr
              rename World => w1
              by_cases hkl : k < u.length
              · obtain ⟨b3, o3, rfl, hc3⟩ := HI.out.cells k hkl
                have HN2 : Hid (badC u[k] = false → ∀ x ∈ u.take (k + 1), badC x = false) := hid (fun h1 x hx => by
                  rw [List.take_add_one, List.getElem?_eq_getElem hkl] at hx
                  rcases List.mem_append.1 hx with hx | hx
                  · exact hal2 x hx
                  · simp at hx; rw [hx]; exact h1)
                have HX2 : Hid (badC u[k] = true → ¬ exprOk ls v) := hid (fun h => HNX.out (.inr (List.any_eq_true.2 ⟨_, List.getElem_mem hkl, h⟩)))
                obtain ⟨x, hx⟩ : ∃ x, u[k] = x := ⟨_, rfl⟩
                rw [hx] at hc3 HN2 HX2
                clear hx hal2
                by_cases h0 : x < 0
                · have HNO := hid (HX2.out (by unfold badC; simp [h0]))
                  clear HN2 HX2
                  go_wp2_with fail
                  go_ret2
                  exact ⟨HB1.out, .inl ⟨HNO.out, rfl⟩⟩
                · by_cases h1 : 1048576 < x
                  · have HNO := hid (HX2.out (by unfold badC; simp [h1]))
                    clear HN2 HX2
                    go_wp2_with fail
                    go_ret2
                    exact ⟨HB1.out, .inl ⟨HNO.out, rfl⟩⟩
                  · have HNN := hid (HN2.out (by unfold badC; simp; omega))
                    clear HN2 HX2
                    go_wp2_with fail
                    go_roundw
                    case rel => exact ⟨k + 1, by omega, by go_num, trivial, HNN.out⟩
                    case measure => simp [intOf]; omega
              · have e1 : k = u.length := by omega
                subst e1
                rw [List.take_length] at hal2
                have HNN := hid (HNB.out HUL.out (List.any_eq_false.2 (fun x hx => by rw [hal2 x hx]; simp)))
                clear hal2 HNB HNX
                go_wp2_with fail
                go_roundw
                case rel => exact ⟨j + 1, by omega, by go_num, trivial, HNN.out⟩
                case measure => simp [intOf]; omega
          · have hne : ((u.length : Int) != (v.length : Int)) = true := by simp; omega
            have HNO := hid (HNX.out (.inl hul))
            clear hul HNB HNX
            go_wp2_with fail
            go_ret2
            exact ⟨HB1.out, .inl ⟨HNO.out, rfl⟩⟩
        · have e1 : j = ls.length := by omega
          subst e1
          rw [List.take_length] at hall
          have HALL := hid hall
          clear hall
          have HCN : Hid (Cnt v) := hid ((cnt_iff v).1 HCV.out)
          have HCU : Hid (∀ u ∈ ls, u.length = v.length ∧ Cnt u) := hid (fun u hu => ⟨(HALL.out u hu).1, (cnt_iff u).1 (HALL.out u hu).2⟩)
          have hvl : v.length ≤ maxLen := by omega
          have HX0 : Hid (RX w w1.heap.size p1 (exprA (ls.take 0) v).2 (.slice none 0 0) (exprA (ls.take 0) v).1 w1) := hid (by
            refine ⟨?_, ⟨none, 0, rfl, World.ownsRow_nil _ _ _ _⟩, HB1.out, Nat.le_refl _, HB1.out.size⟩
            by_cases hv0 : v.length = 0
            · exact .inl (List.eq_nil_of_length_eq_zero hv0)
            · obtain ⟨gl, h1, h2, h3, _⟩ := HC1.out.bl (by omega)
              exact .inr ⟨gl, h1, h3, h2, h3.lt⟩)
          obtain ⟨top, htop⟩ : ∃ t, w1.heap.size = t := ⟨_, rfl⟩
          rw [htop] at HX0
          have HTOP := hid htop
          clear htop
          go_wp2_with fail
          go_loopw [10, 11] (fun vo i wr => ∃ k : Nat, k ≤ ls.length ∧ i = .int .i64 k ∧ RX w top p1 (exprA (ls.take k) v).2 vo (exprA (ls.take k) v).1 wr) (fun _ i _ => ls.length - (intOf i).toNat)
          case atStart => exact ⟨0, Nat.zero_le _, rfl, HX0.out⟩
          case round =>
            obtain ⟨k, hk, rfl, hX⟩ := hrel
            rename World => wr
            have hok := expr_ok (ls.take k) v HCN.out (fun u hu => HCU.out u (List.mem_of_mem_take hu))
            by_cases hlt2 : k < ls.length
            · obtain ⟨b, o, p, d2, rfl, hc0, hI0⟩ := HR0.out.cells k hlt2
              have hu := HCU.out _ (List.getElem_mem hlt2)
              obtain ⟨L, hLe⟩ : ∃ L, (exprA (ls.take k) v).2 = L := ⟨_, rfl⟩
              obtain ⟨O, hOe⟩ : ∃ O, (exprA (ls.take k) v).1 = O := ⟨_, rfl⟩
              have HES := hid (expr_step ls v k hlt2)
              rw [hLe, hOe] at hX HES
              rw [hLe] at hok
              rw [hOe] at hok
              have hOl : O.length = k := by rw [hok.2.2.1, List.length_take]; omega
              obtain ⟨u, hue⟩ : ∃ u, ls[k] = u := ⟨_, rfl⟩
              rw [hue] at hc0 hI0 hu HES
              have hfit := fit_ok hu.2 hok.1
              have hul := hu.1
              have hLl := hok.2.1
              rw [hul] at hc0
              have HC0 := hid hc0; have HI0 := hid hI0; have HU := hid hu; have HOK := hid hok; have HFIT := hid hfit; have HX := hid hX; have HUL := hid hul; have HLL := hid hLl; have HOL := hid hOl
              have HIN : Hid (∀ (O' : List Int) (M : List Int) W, RX w top p1 M u10 O' W → M.length = v.length → ∀ j, j < v.length → W.cell? ⟨b, o + k, none⟩ = some (.slice p v.length d2) ∧ ∃ b3 o3 gl, p = some ⟨b3, o3, none⟩ ∧ W.cell? ⟨b3, o3 + j, none⟩ = some (.int .i64 (u.getD j 0)) ∧ p1 = some ⟨gl, 0, none⟩ ∧ Bl W gl M ∧ w.heap.size ≤ gl ∧ gl < top) := hid (by
                intro O' M W hRX hM j hj
                refine ⟨below_cell hRX.low _ _ HC0.out, ?_⟩
                obtain ⟨b3, o3, h1, h2⟩ := (HI0.out.below hRX.low).cells j (by rw [HUL.out]; exact hj)
                rcases hRX.left with h3 | ⟨gl, h3, h4, h5, h6⟩
                · rw [h3] at hM; simp at hM; omega
                · exact ⟨b3, o3, gl, h1, by rw [List.getD_eq_getElem?_getD, List.getElem?_eq_getElem (by rw [HUL.out]; exact hj)]; exact h2, h3, h4, h5, h6⟩)
              obtain ⟨R, hR9⟩ : ∃ R, fitL none u L = R := ⟨_, rfl⟩
              have HRR := hid hR9
              have HFN : Hid (fitN u L = R.getD 0) := hid (by unfold fitN; rw [hR9])
              clear hc0 hI0 hu hok hfit hX hul hLl hOl hLe hOe hue hR9
              go_wp2_with fail
              go_loopw [12, 13] (fun nv jv wx => ∃ (j : Nat) (acc : Option Int), j ≤ v.length ∧ jv = .int .i64 j ∧ nv = .int .i64 (accI acc) ∧ (∀ m, acc = some m → 0 ≤ m) ∧ fitL acc (u.drop j) (L.drop j) = R ∧ RX w top p1 L u10 O wx) (fun _ jv _ => v.length - (intOf jv).toNat)
              case atStart => exact ⟨0, none, Nat.zero_le _, rfl, rfl, (fun m hm => by cases hm), HRR.out, HX.out⟩
              case round =>
                obtain ⟨j, acc, hj, rfl, rfl, hacc, hf, hX⟩ := hrel
                rename World => wx
                by_cases hjl : j < v.length
                · obtain ⟨c0, b3, o3, gl, rfl, c3, rfl, hBl, hg1, hg2⟩ := HIN.out O L wx hX HLL.out j hjl
                  have hju : j < u.length := by rw [HUL.out]; exact hjl
                  have hjL : j < L.length := by rw [HLL.out]; exact hjl
                  have c4 := hBl.cell j hjL
                  rw [List.drop_eq_getElem_cons hju, List.drop_eq_getElem_cons hjL, fitL] at hf
                  rw [List.getD_eq_getElem?_getD, List.getElem?_eq_getElem hju, Option.getD_some] at c3
                  have g1 := HU.out.2.get j hju
                  have g2 := HOK.out.1.get j hjL
                  obtain ⟨x, hx⟩ : ∃ x, u[j] = x := ⟨_, rfl⟩
                  obtain ⟨y, hy⟩ : ∃ y, L[j] = y := ⟨_, rfl⟩
                  rw [hx, hy] at hf
                  rw [hx] at c3 g1
                  rw [hy] at c4 g2
                  have HX2 := hid hX
                  clear hx hy hX hBl
                  by_cases h0 : x = 0
                  · rw [show fitS acc x y = acc by unfold fitS; rw [if_pos h0]] at hf
                    subst h0
                    have HF := hid hf; have HA := hid hacc
                    clear hf hacc
                    go_wp2_with fail
                    go_big_quiet (fail)
                    go_wp2_with fail
                    go_roundw
                    case rel => exact ⟨j + 1, acc, by omega, by go_num, rfl, HA.out, HF.out, HX2.out.drewN _⟩
                    case measure => simp [intOf]; omega
                  · have hxp : 0 < x := by omega
                    have hq0 : 0 ≤ y / x := Int.ediv_nonneg g2.1 g1.1
                    have hq1 := Int.ediv_le_self (a := y) x g2.1
                    have e1 : IntKind.i64.wrap (y.tdiv x) = y / x := by rw [Int.tdiv_eq_ediv_of_nonneg g2.1]; exact IntWalk.i64_in _ (by constructor <;> omega)
                    obtain ⟨z, hz⟩ : ∃ z, y / x = z := ⟨_, rfl⟩
                    rw [hz] at e1 hq0 hq1
                    have hn1 : fitS none x y = some z := by unfold fitS; rw [if_neg h0, hz]
                    have hn2 : ∀ m, fitS (some m) x y = if z < m then some z else some m := fun m => by unfold fitS; rw [if_neg h0, hz]
                    clear hz
                    cases acc with
                    | none =>
                      rw [hn1] at hf
                      have HF := hid hf
                      clear hf hn1 hn2 hacc
                      have ea : accI none = -1 := rfl
                      rw [ea]
                      go_wp2_with fail
                      go_big_quiet (fail)
                      go_wp2_with fail
                      go_big_quiet (fail)
                      go_wp2_with fail
                      go_roundw
                      case rel => exact ⟨j + 1, some z, by omega, by go_num, rfl, (fun m hm => by injection hm with hm; omega), HF.out, HX2.out.drewN _⟩
                      case measure => simp [intOf]; omega
                    | some m =>
                      rw [hn2] at hf
                      have hm0 := hacc m rfl
                      have ea : accI (some m) = m := rfl
                      rw [ea]
                      have hm1 : decide (m < 0) = false := decide_eq_false (by omega)
                      clear ea hacc hn1 hn2
                      by_cases hzm : z < m
                      · rw [if_pos hzm] at hf
                        have HF := hid hf
                        have hzd : decide (z < m) = true := decide_eq_true hzm
                        clear hf
                        go_wp2_with fail
                        go_big_quiet (fail)
                        go_wp2_with fail
                        go_big_quiet (fail)
                        go_wp2_with fail
                        go_roundw
                        case rel => exact ⟨j + 1, some z, by omega, by go_num, rfl, (fun m hm => by injection hm with hm; omega), HF.out, HX2.out.drewN _⟩
                        case measure => simp [intOf]; omega
                      · rw [if_neg hzm] at hf
                        have HF := hid hf
                        have hzd : decide (z < m) = false := decide_eq_false hzm
                        clear hf
                        go_wp2_with fail
                        go_big_quiet (fail)
                        go_wp2_with fail
                        go_roundw
                        case rel => exact ⟨j + 1, some m, by omega, by go_num, rfl, (fun m' hm => by injection hm with hm; omega), HF.out, HX2.out.drewN _⟩
                        case measure => simp [intOf]; omega
                · have ej : j = v.length := by omega
                  rw [List.drop_eq_nil_of_le (by rw [HUL.out]; omega), show fitL acc [] (L.drop j) = acc by cases L.drop j <;> rfl] at hf
                  have hfn : fitN u L = acc.getD 0 := by rw [HFN.out, hf]
                  obtain ⟨n, hn⟩ : ∃ n, fitN u L = n := ⟨_, rfl⟩
                  have hmaxE : (if accI acc < 0 then 0 else accI acc) = n := by
                    rw [← hn, hfn]
                    cases acc with
                    | none => rfl
                    | some m => have := hacc m rfl; show (if m < 0 then 0 else m) = m; rw [if_neg (by omega)]
                  have HN := hid hn
                  obtain ⟨ac, hac⟩ : ∃ ac, accI acc = ac := ⟨_, rfl⟩
                  rw [hac] at hmaxE ⊢
                  have HX2 := hid hX
                  clear hfn hf hacc hn hac hX ej
                  go_wp2_with fail
                  go_loopw [14] (fun jv wx => ∃ j : Nat, j ≤ v.length ∧ jv = .int .i64 j ∧ RX w top p1 (lefA n u L j) u10 O wx) (fun jv _ => v.length - (intOf jv).toNat)
                  case atStart => exact ⟨0, Nat.zero_le _, rfl, by rw [lef_zero]; exact HX2.out⟩
                  case round =>
                    obtain ⟨j2, hj2, rfl, hX⟩ := hrel
                    rename World => wy
                    have huL : u.length = L.length := by rw [HUL.out, HLL.out]
                    by_cases hjl2 : j2 < v.length
                    · have hll := lef_len n u L huL j2 (by rw [HLL.out]; omega)
                      obtain ⟨c0, b3, o3, gl, rfl, c3, rfl, hBl, hg1, hg2⟩ := HIN.out O _ wy hX (by rw [hll]; exact HLL.out) j2 hjl2
                      have hju : j2 < u.length := by rw [HUL.out]; exact hjl2
                      have hjL : j2 < L.length := by rw [HLL.out]; exact hjl2
                      have hfj := HFIT.out.2.2 j2 hju hjL
                      have hcj := HU.out.2.get j2 hju
                      have hlj := HOK.out.1.get j2 hjL
                      have hn0 := HFIT.out.1
                      rw [HN.out] at hfj hn0
                      have hlg := lef_get n u L huL j2 hjL
                      have hls2 := lef_step n u L huL j2 hjL hju
                      have c4 := hBl.cell j2 (by rw [hll]; exact hjL)
                      rw [List.getElem?_eq_getElem (by rw [hll]; exact hjL)] at hlg
                      rw [Option.some.inj hlg] at c4
                      rw [List.getD_eq_getElem?_getD, List.getElem?_eq_getElem hju, Option.getD_some] at c3
                      obtain ⟨x, hx⟩ : ∃ x, u[j2] = x := ⟨_, rfl⟩
                      obtain ⟨y, hy⟩ : ∃ y, L[j2] = y := ⟨_, rfl⟩
                      rw [hx] at c3 hfj hcj hls2
                      rw [hy] at c4 hfj hlj hls2
                      have hp0 := Int.mul_nonneg hn0 hcj.1
                      obtain ⟨m, hm⟩ : ∃ m, n * x = m := ⟨_, rfl⟩
                      rw [hm] at hfj hp0 hls2
                      have e1 : IntKind.i64.wrap (n * x) = m := by rw [hm]; exact IntWalk.i64_in _ (by constructor <;> omega)
                      have e2 : IntKind.i64.wrap (y - m) = y - m := IntWalk.i64_in _ (by constructor <;> omega)
                      have y1 : wy.drew.cell? ⟨gl, j2, none⟩ = some (.int .i64 y) := c4
                      have y2 : wy.drew.cell? ⟨b3, o3 + j2, none⟩ = some (.int .i64 x) := c3
                      have y3 : wy.drew.cell? ⟨b, o + k, none⟩ = some (.slice (some ⟨b3, o3, none⟩) v.length d2) := c0
                      have f1 : wy.drew.frozen? ⟨gl, j2, none⟩ = false := hBl.free j2
                      have hset := hX.set hBl hg1 hg2 j2 (y - m)
                      rw [hls2] at hset
                      have HFIN : Hid (RX w top (some ⟨gl, 0, none⟩) (lefA n u L (j2 + 1)) u10 O (wy.setCell ⟨gl, j2, none⟩ (.int .i64 (y - m))).drew) := hid (hset.drewN 1)
                      clear hset hX hBl hlg hls2 hll hx hy hm c0 c3 c4
                      go_wp2_with fail
                      go_region
                      all_goals
                        go_wp2_with fail
                        go_roundw
                        case rel => exact ⟨j2 + 1, by omega, by go_num, HFIN.out⟩
                        case measure => simp [intOf]; omega
                    · have ej2 : j2 = L.length := by rw [HLL.out]; omega
                      have hX3 : RX w top p1 (exprA (ls.take (k + 1)) v).2 u10 O wy := by
                        rw [HES.out.2, HN.out, ← lef_all n u L huL, ← ej2]
                        exact hX
                      obtain ⟨qo, co, hvo, hCR⟩ := hX3.out
                      subst hvo
                      have b3 := alloc_below0 wy (.cells #[.int .i64 n] 3)
                      have n3 := World.alloc_heap_new wy (.cells #[.int .i64 n] 3)
                      obtain ⟨q5, c5, w5, hr5, hA5, hG5⟩ := run_appB 27 top _ O.length (cAll O) (wy.alloc (.cells #[.int .i64 n] 3)) (hCR.below b3) (some ⟨wy.heap.size, 0, none⟩) 1 1 [.int .i64 n] (.inr ⟨_, rfl, rfl, fun j u hj => by
                        match j, hj with
                        | 0, hj => cases hj; exact cell_box n3 rfl⟩) (fun u hu => by rw [List.mem_singleton.1 hu]; rfl) (by rw [HOL.out]; omega) (by rw [World.size_alloc]; have := hX3.sz; omega)
                      have hf5 := fr_grown hG5
                      have hown : ∀ q, (Value.slice qo O.length co).ownBlock = some q → top ≤ q := fun q hq => by
                        obtain ⟨cur, _, h2⟩ := own_blk2 hCR hq
                        exact h2
                      have HFIN : Hid (RX w top p1 (exprA (ls.take (k + 1)) v).2 (.slice q5 (O.length + 1) c5) (exprA (ls.take (k + 1)) v).1 w5) := hid (by
                        have hO' : (exprA (ls.take (k + 1)) v).1 = O ++ [n] := by rw [HES.out.1, HN.out]
                        have hsz := hX3.sz
                        refine ⟨hX3.left.same (fun b hb => ?_), ⟨q5, c5, by rw [hO', List.length_append]; rfl, ?_⟩, ?_, ?_, hX3.wt⟩
                        · rw [hf5.same b (by rw [World.size_alloc]; omega) (fun e => by have := hown b e; omega), b3.block b (by omega)]
                        · rw [hO']
                          unfold CRow
                          rw [List.length_append]
                          unfold cAll at hA5 ⊢
                          rw [List.map_append]
                          exact hA5
                        · exact hX3.low.trans ((b3.mono hX3.low.size).trans (hf5.below (fun q hq => by have := hown q hq; have := hX3.wt; omega) (by rw [World.size_alloc]; have := hX3.low.size; omega)))
                        · have := hf5.low.size
                          rw [World.size_alloc] at this
                          omega)
                      have HR5 := hid hr5
                      clear hX hX3 hCR b3 n3 hr5 hA5 hG5 hf5 hown ej2
                      go_wp2_with (first
                        | (at_builtin; refine Lib.wpList_append_run _ rfl _ _ _ _ rfl _ _ rfl rfl _ _ HR5.out ?_; clear HR5)
                        | fail)
                      go_roundw
                      case rel => exact ⟨k + 1, by omega, by go_num, HFIN.out⟩
                      case measure => simp [intOf]; omega
            · have e1 : k = ls.length := by omega
              subst e1
              rw [List.take_length] at hX hok
              obtain ⟨qo, co, hvo, hCR⟩ := hX.out
              rw [hok.2.2.1] at hvo
              subst hvo
              have HSU := hid (rsum_any p1 c1 (exprA ls v).2 wr (hX.left.ints (by rw [hok.2.1]; exact hvl)))
              rw [hok.2.1] at HSU
              have hz0 := sum_zero hok.1 (by rw [hok.2.1]; exact hvs)
              obtain ⟨sv, hsv⟩ : ∃ x, IntKind.i64.wrap (exprA ls v).2.sum = x := ⟨_, rfl⟩
              rw [hsv] at HSU hz0
              obtain ⟨bq, hbq⟩ : ∃ b, (!(exprA ls v).2.any leftQ) = b := ⟨_, rfl⟩
              rw [hbq] at hz0
              have HBQ := hid hbq
              have HCR := hid (hCR.mono hX.wt); have HLO := hid hX.low
              have HEO : Hid (exprOk ls v) := hid ⟨HCV.out, HALL.out⟩
              clear hsv hbq hCR hX hok
              go_wp2_with fail
              refine HSU.out.mono ?_
              rintro e w2 ⟨rfl, hw2⟩
              subst hw2
              go_wp2_with fail
              go_ret2
              exact ⟨HLO.out, .inr ⟨HEO.out, qo, co, by rw [HBQ.out]; rfl, HCR.out⟩⟩
end Go.Proofs.Ytbdkogccjnmfoaa
