/- What find, count, Count and sum answer. -/
import Derived.Test.YtlbmamkkbpjafabBFind
namespace Go.Proofs.Ytlbmamkkbpjafab
open Go.RowKit Go.Deep

set_option maxRecDepth 100000 in
set_option maxHeartbeats 2000000 in
theorem find_any (p : Option Addr) (c : Nat) (l : List It) (x : Th) (w : World) (hI : ItsAt w p l.length l) (hs : Srt l) (hn : l.length ≤ 1048576) :
    Calls Try.prog 13 #[ordV, .slice p l.length c, thV x] w fun e w' => e = .returned (.tuple #[.int .i64 (posK x.1 l), .bool (thereB x.1 l)]) ∧ Below w.heap.size w w' := by
  have hmf : ∀ (fn : Fn) (first cap : Array Value) (w : World), (Instr.makeFunc fn first cap).run Try.prog w = .ok (.func fn first cap) w := fun _ _ _ _ => rfl
  obtain ⟨xk, xm⟩ := x
  dsimp only [thV]
  have b1 := alloc_below0 w (.cells #[ordV] 27)
  have n1 := World.alloc_heap_new w (.cells #[ordV] 27)
  have b2 := alloc_below0 (w.alloc (.cells #[ordV] 27)) (.cells #[.int .i64 xk, .int .i64 xm] 26)
  have L2 := hid (b1.trans (b2.mono b1.size))
  have hg := below_cell b2 _ _ (cell_box (i := 0) n1 rfl)
  have HC := hid (search_any p c l (xk, xm) w.heap.size _ (hI.below (b1.trans (b2.mono b1.size))) hs hn hg)
  obtain ⟨pos, hpos⟩ : ∃ q, posK xk l = q := ⟨_, rfl⟩
  obtain ⟨th, hth⟩ : ∃ q, thereB xk l = q := ⟨_, rfl⟩
  dsimp only [thV] at HC
  rw [hpos, hth] at HC ⊢
  clear b1 n1 b2 hg hpos hth hI hs
  go_enter Try.func13, Try.ntmps13
  go_wp2_with fail
  refine HC.out.mono ?_
  rintro e w1 ⟨rfl, hb1⟩
  have L3 := hid (L2.out.trans (hb1.mono L2.out.size))
  clear hb1
  go_wp2
  go_ret2
  exact ⟨rfl, L3.out⟩
/-- How often a key is there. -/
def cntK (k : Int) (l : List It) : Int := if thereB k l = true then (match l[posK k l]? with | some y => y.2 | none => 0) else 0
theorem there_lt {k : Int} {l : List It} (h : thereB k l = true) : ∃ (hp : posK k l < l.length), (l[posK k l]).1.1 = k := by
  unfold thereB at h
  cases hg : l[posK k l]? with
  | none => rw [hg] at h; cases h
  | some y =>
    rw [hg] at h
    obtain ⟨hp, rfl⟩ := List.getElem?_eq_some_iff.1 hg
    exact ⟨hp, by simpa using h⟩
theorem cnt_there {k : Int} {l : List It} (h : thereB k l = true) (hp : posK k l < l.length) : cntK k l = (l[posK k l]).2 := by
  unfold cntK
  rw [if_pos h, List.getElem?_eq_getElem hp]

set_option maxRecDepth 100000 in
set_option maxHeartbeats 2000000 in
theorem count_any (p : Option Addr) (c : Nat) (l : List It) (x : Th) (w : World) (hI : ItsAt w p l.length l) (hs : Srt l) (hn : l.length ≤ 1048576) :
    Calls Try.prog 18 #[ordV, .slice p l.length c, thV x] w fun e w' => e = .returned (.int .i64 (cntK x.1 l)) ∧ Below w.heap.size w w' := by
  obtain ⟨xk, xm⟩ := x
  dsimp only [thV]
  have b1 := alloc_below0 w (.cells #[.int .i64 xk, .int .i64 xm] 26)
  have L1 := hid b1
  have HI := hid (hI.below b1)
  have HC := hid (find_any p c l (xk, xm) _ (hI.below b1) hs hn)
  dsimp only [thV] at HC
  obtain ⟨cn, hcn⟩ : ∃ q, cntK xk l = q := ⟨_, rfl⟩
  rw [hcn]
  have HCN := hid hcn
  clear b1 hI hs hcn
  cases hth : thereB xk l with
  | false =>
    rw [hth] at HC
    have hc0 : cn = 0 := by rw [← HCN.out]; unfold cntK; rw [hth]; rfl
    subst hc0
    clear hth
    go_enter Try.func18, Try.ntmps18
    go_wp2_with fail
    refine HC.out.mono ?_
    rintro e w1 ⟨rfl, hb1⟩
    have L3 := hid (L1.out.trans (hb1.mono L1.out.size))
    clear hb1
    go_wp2
    go_ret
    exact ⟨rfl, L3.out⟩
  | true =>
    rw [hth] at HC
    obtain ⟨hp, _⟩ := there_lt hth
    have hc0 := cnt_there hth hp
    rw [HCN.out] at hc0
    obtain ⟨pos, hpos⟩ : ∃ q, posK xk l = q := ⟨_, rfl⟩
    simp only [hpos] at HC hp hc0
    obtain ⟨b1, o1, rfl, e1, e2, e3⟩ := HI.out.cells pos hp
    rw [← hc0] at e3
    have HE3 := hid e3
    clear hth hpos hc0 e1 e2 e3
    go_enter Try.func18, Try.ntmps18
    go_wp2_with fail
    refine HC.out.mono ?_
    rintro e w1 ⟨rfl, hb1⟩
    have L3 := hid (L1.out.trans (hb1.mono L1.out.size))
    have e4 := below_cell hb1 _ _ HE3.out
    clear hb1
    go_wp2
    go_ret
    exact ⟨rfl, L3.out⟩
/-- A bag: its order by keys, its items. -/
def BagBox (W : World) (B : Nat) (v : Value) : Prop := W.heap[B]? = some (.cells #[ordV, v] 42 (0, 0))
theorem BagBox.lt {W : World} {B : Nat} {v : Value} (h : BagBox W B v) : B < W.heap.size := (Array.getElem?_eq_some_iff.1 h).1
theorem BagBox.below {W W' : World} {B : Nat} {v : Value} (h : BagBox W B v) (hb : Below W.heap.size W W') : BagBox W' B v := (hb.block B h.lt).trans h
theorem BagBox.c0 {W : World} {B : Nat} {v : Value} (h : BagBox W B v) : W.cell? ⟨B, 0, none⟩ = some ordV := cell_box h rfl
theorem BagBox.c1 {W : World} {B : Nat} {v : Value} (h : BagBox W B v) : W.cell? ⟨B, 1, none⟩ = some v := cell_box h rfl
theorem BagBox.f {W : World} {B i : Nat} {v : Value} (h : BagBox W B v) : W.frozen? ⟨B, i, none⟩ = false := by simp [World.frozen?, show W.heap[B]? = _ from h]

set_option maxRecDepth 100000 in
set_option maxHeartbeats 2000000 in
theorem Count_any (B : Nat) (p : Option Addr) (c : Nat) (l : List It) (x : Th) (w : World) (hB : BagBox w B (.slice p l.length c)) (hI : ItsAt w p l.length l) (hs : Srt l) (hn : l.length ≤ 1048576) :
    Calls Try.prog 8 #[.pointer (some ⟨B, 0, none⟩), thV x] w fun e w' => e = .returned (.int .i64 (cntK x.1 l)) ∧ Below w.heap.size w w' := by
  obtain ⟨xk, xm⟩ := x
  dsimp only [thV]
  have b1 := alloc_below0 w (.cells #[.int .i64 xk, .int .i64 xm] 26)
  have n1 := hid (World.alloc_heap_new w (.cells #[.int .i64 xk, .int .i64 xm] 26))
  have L1 := hid b1
  have HB := hid (hB.below b1)
  obtain ⟨cn, hcn⟩ : ∃ q, cntK xk l = q := ⟨_, rfl⟩
  rw [hcn]
  have HC : Hid (∀ W, Below (w.alloc (.cells #[.int .i64 xk, .int .i64 xm] 26)).heap.size (w.alloc (.cells #[.int .i64 xk, .int .i64 xm] 26)) W → Calls Try.prog 18 #[ordV, .slice p l.length c, .agg #[.int .i64 xk, .int .i64 xm]] W fun e w' => e = .returned (.int .i64 cn) ∧ Below W.heap.size W w') := hid fun W hW => by
    have h := count_any p c l (xk, xm) W ((hI.below b1).below hW) hs hn
    dsimp only [thV] at h
    rw [hcn] at h
    exact h
  clear b1 hI hs hcn hB
  go_enter Try.func8, Try.ntmps8
  go_upto_region 1 with fail
  generalize w.alloc (.cells #[.int .i64 xk, .int .i64 xm] 26) = V at n1 L1 HB HC ⊢
  have hne := later_some V
  have d0 := later_cell (cell_box (i := 0) n1.out rfl); have d1 := later_cell (cell_box (i := 1) n1.out rfl)
  have d2 := later_cell HB.out.c0; have d3 := later_cell HB.out.c1
  refine wp_region_later (by kernel_rfl) (by kernel_rfl) ?_
  repeat (go_big_quiet_step (first | (go_at_call 18; with_reducible refine calls_later (HC.out _ ?_); exact Later.below _) | fail))
  refine wpQuiet_nil ?_
  intro _ hw'
  obtain ⟨b3, hw''⟩ := hw'
  subst hw''
  clear d0 d1 d2 d3 hne
  go_wp2
  go_ret
  exact ⟨rfl, L1.out.trans (b3.below.mono L1.out.size)⟩

set_option maxRecDepth 100000 in
set_option maxHeartbeats 1000000 in
/-- sum of numbers that are no great ones. -/
theorem sum_any (a b : Int) (w : World) (ha : -1000000000000 ≤ a ∧ a ≤ 1000000000000) (hb : -1000000000000 ≤ b ∧ b ≤ 1000000000000) : Calls Try.prog 14 #[.int .i64 a, .int .i64 b] w fun e w' => e = .returned (.int .i64 (a + b)) ∧ w' = w := by
  by_cases h0 : 0 < b
  · have h1 : ¬ 9223372036854775807 - b < a := by omega
    go_enter Try.func14, Try.ntmps14
    go_wp2
    go_ret
    exact ⟨rfl, rfl⟩
  · go_enter Try.func14, Try.ntmps14
    go_wp2
    go_ret
    exact ⟨rfl, rfl⟩
end Go.Proofs.Ytlbmamkkbpjafab
