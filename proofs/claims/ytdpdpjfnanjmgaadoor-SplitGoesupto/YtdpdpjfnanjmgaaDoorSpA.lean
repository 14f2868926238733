/- Memory: lists of numbers, what a call leaves alone, ranges over functions; TrailingZeros32. -/
import Derived.Test.YtdpdpjfnanjmgaaDoorRows
import Derived.WalkKit
import Derived.WalkSpells
import Derived.WalkLawsBesides
import Derived.Deep.DeepCutAuto
import Derived.BigQuiet
import Derived.RangeFuncNested
import Derived.RangeFuncBound
import Derived.RangeFuncCalls
import Derived.RangeFuncLeaves
import Derived.Shelf.Abstract
import Derived.Shelf.RegionOpen
import Derived.OwnWalkIn
import Derived.TacticsInMore
import Derived.LoopNIn
import Derived.LoopIn
import Derived.Sort.BigQuietIn
import Derived.Laws.EntriesVeiled
namespace Go.Proofs.YtdpdpjfnanjmgaaDoor
open Go.RowKit Go.Shelf


theorem hid {P : Prop} (h : P) : Hid P := h
theorem below_cell {w w' : World} (hb : Below w.heap.size w w') : ∀ p v, w.cell? p = some v → w'.cell? p = some v := fun p v h => by
  rw [hb.cell (World.block_lt_of_cell? w p h)]; exact h
/-- The slice with this address holds these numbers. -/
structure IntsAt (w : World) (a : Option Addr) (ns : List Int) : Prop where
  small : ns.length ≤ maxLen
  cells : ∀ i (h : i < ns.length), ∃ b o, a = some ⟨b, o, none⟩ ∧ w.cell? ⟨b, o + i, none⟩ = some (.int .i64 ns[i])
theorem IntsAt.below {w w' : World} {a : Option Addr} {ns : List Int} (h : IntsAt w a ns) (hb : Below w.heap.size w w') : IntsAt w' a ns :=
  ⟨h.small, fun i hi => let ⟨b, o, h1, h2⟩ := h.cells i hi; ⟨b, o, h1, below_cell hb _ _ h2⟩⟩
/-- The slice with this address holds these rows. -/
structure RowsAt (w : World) (a : Option Addr) (rs : List (List Int)) : Prop where
  small : rs.length ≤ maxLen
  cells : ∀ i (h : i < rs.length), ∃ b o p c, a = some ⟨b, o, none⟩ ∧ w.cell? ⟨b, o + i, none⟩ = some (.slice p rs[i].length c) ∧ IntsAt w p rs[i]
theorem RowsAt.below {w w' : World} {a : Option Addr} {rs : List (List Int)} (h : RowsAt w a rs) (hb : Below w.heap.size w w') : RowsAt w' a rs :=
  ⟨h.small, fun i hi => let ⟨b, o, p, c, h1, h2, h3⟩ := h.cells i hi; ⟨b, o, p, c, h1, below_cell hb _ _ h2, h3.below hb⟩⟩
theorem bit_le {A p : Nat} (h : A.testBit p = true) : 2 ^ p ≤ A := Nat.ge_two_pow_of_testBit h
theorem odd_part {M p : Nat} (h0 : M % 2 ^ p = 0) (h1 : M.testBit p = true) : ∃ q, M = 2 ^ p * (2 * q + 1) := by
  refine ⟨M / 2 ^ p / 2, ?_⟩
  rw [Nat.testBit_eq_decide_div_mod_eq] at h1
  have h2 := of_decide_eq_true h1
  have h3 := Nat.div_add_mod M (2 ^ p)
  rw [h0, Nat.add_zero] at h3
  rw [show 2 * (M / 2 ^ p / 2) + 1 = M / 2 ^ p by omega]
  exact h3.symm
/-- The lowest bit alone. -/
theorem low_bit {M p n : Nat} (h0 : M % 2 ^ p = 0) (h1 : M.testBit p = true) (hn : M < 2 ^ n) : M &&& (2 ^ n - M) = 2 ^ p := by
  obtain ⟨q, hq⟩ := odd_part h0 h1
  have hp := Nat.two_pow_pos p
  have hM : 0 < M := by have := bit_le h1; omega
  have e1 : 2 ^ n - M = 2 ^ n - (M - 1 + 1) := by congr 1; omega
  have e2 : M - 1 = 2 ^ p * (2 * q) + (2 ^ p - 1) := by rw [hq, Nat.mul_add]; omega
  refine Nat.eq_of_testBit_eq fun i => ?_
  rw [e1, Nat.testBit_and, Nat.testBit_two_pow_sub_succ (by omega), Nat.testBit_two_pow, e2, Nat.testBit_two_pow_mul_add _ (by omega)]
  have e3 : M.testBit i = if i < p then false else (2 * q + 1).testBit (i - p) := by
    conv => lhs; rw [hq]
    rw [Nat.testBit_two_pow_mul]
    by_cases hi : i < p
    · rw [if_pos hi, decide_eq_false (by omega)]; rfl
    · rw [if_neg hi, decide_eq_true (by omega)]; rfl
  rw [e3]
  by_cases hi : i < p
  · rw [if_pos hi, show decide (p = i) = false from decide_eq_false (by omega)]; rfl
  rw [if_neg hi, if_neg hi]
  by_cases hip : p = i
  · subst hip
    have hpn : p < n := Nat.lt_of_not_le fun hle => by
      have h9 : 2 ^ n ≤ 2 ^ p := Nat.pow_le_pow_right (by omega) hle
      have := bit_le h1
      omega
    rw [decide_eq_true (rfl : p = p), decide_eq_true hpn, Nat.sub_self]
    simp
  · obtain ⟨d, hd⟩ : ∃ d, i - p = d + 1 := ⟨i - p - 1, by omega⟩
    rw [decide_eq_false hip, hd, Nat.testBit_succ, Nat.testBit_succ, show (2 * q + 1) / 2 = q by omega, show (2 * q) / 2 = q by omega]
    cases q.testBit d <;> simp
theorem low_there {M : Nat} (hM : M ≠ 0) : ∃ p, M % 2 ^ p = 0 ∧ M.testBit p = true := by
  induction M using Nat.strongRecOn with
  | _ M ih =>
    by_cases h2 : M % 2 = 1
    · exact ⟨0, by omega, by rw [Nat.testBit_zero]; simpa using h2⟩
    · obtain ⟨p, h3, h4⟩ := ih (M / 2) (by omega) (by omega)
      refine ⟨p + 1, ?_, by rw [Nat.testBit_succ]; exact h4⟩
      rw [Nat.pow_succ, Nat.mul_comm, Nat.mod_mul, h3]
      omega

def tab32 : List Int := [0, 1, 28, 2, 29, 14, 24, 3, 30, 22, 20, 15, 25, 17, 4, 8, 31, 27, 13, 23, 21, 19, 16, 7, 26, 12, 18, 6, 11, 5, 10, 9]
/-- The library's table lies in memory. -/
def Tab (w : World) : Prop := ∀ i, i < 32 → w.cell? ⟨0, i, none⟩ = some (.int .u8 (tab32.getD i 0))
theorem Tab.below {w w' : World} (h : Tab w) (hb : Below w.heap.size w w') : Tab w' := fun i hi => below_cell hb _ _ (h i hi)
def idx32 (p : Nat) : Nat := 2 ^ p * 125613361 % 4294967296 / 134217728
theorem idx_lt : ∀ p, p < 32 → idx32 p < 32 := by decide
theorem idx_tab : ∀ p, p < 32 → tab32.getD (idx32 p) 0 = (p : Int) := by decide
theorem tz1 (M : Nat) (hM : M < 4294967296) (hpos : 0 < M) : IntKind.u32.wrap (-(M : Int)) = ((4294967296 - M : Nat) : Int) := by rw [IntKind.wrap_u32']; omega
theorem tz2 {M p : Nat} (h0 : M % 2 ^ p = 0) (h1 : M.testBit p = true) (hM : M < 4294967296) (hpos : 0 < M) : bits .and .u32 (M : Int) ((4294967296 - M : Nat) : Int) = ((2 ^ p : Nat) : Int) := by
  have h2 : M &&& (4294967296 - M) = 2 ^ p := low_bit (n := 32) h0 h1 hM
  rw [u32_and_nat _ _ hM (by omega), h2]
theorem tz3 (x : Nat) : IntKind.u32.wrap ((x : Int) * 125613361) = ((x * 125613361 % 4294967296 : Nat) : Int) := by rw [IntKind.wrap_u32', Int.natCast_emod, Int.natCast_mul]; rfl
theorem tz4 (p : Nat) : ((2 ^ p * 125613361 % 4294967296 : Nat) : Int) / 134217728 = (idx32 p : Int) := by unfold idx32; rw [Int.natCast_ediv]; rfl
set_option maxRecDepth 100000 in
set_option maxHeartbeats 2000000 in
theorem tz_any (M p : Nat) (h0 : M % 2 ^ p = 0) (h1 : M.testBit p = true) (hM : M < 4294967296) (w : World) (hT : Tab w) :
    Calls Tryd.prog 39 #[.int .u32 M] w fun e w' => e = .returned (.int .i64 p) ∧ w' = w := by
  have hp : p < 32 := Nat.lt_of_not_le fun hle => by
    have h9 : 2 ^ 32 ≤ 2 ^ p := Nat.pow_le_pow_right (by omega) hle
    have := bit_le h1
    omega
  have hle := bit_le h1
  have hpp := Nat.two_pow_pos p
  have hpos : 0 < M := by omega
  have hn := tz1 M hM hpos
  have ha := tz2 h0 h1 hM hpos
  have hm := tz3 (2 ^ p)
  have hs := tz4 p
  have hi := idx_lt p hp
  have hc := hT _ hi
  rw [idx_tab p hp] at hc
  have hne : ((M : Int) == 0) = false := by simp; omega
  have hcv : IntKind.i64.wrap (p : Int) = (p : Int) := IntWalk.i64_in _ (by constructor <;> omega)
  generalize idx32 p = q at hs hi hc
  generalize ((2 ^ p * 125613361 % 4294967296 : Nat) : Int) = y at hm hs
  generalize ((2 ^ p : Nat) : Int) = x at ha hm
  generalize ((4294967296 - M : Nat) : Int) = z at hn ha
  have hqz : y / 134217728 < 32 := by omega
  have hq0 : 0 ≤ y / 134217728 := by omega
  rw [show q = (y / 134217728).toNat by omega] at hc
  clear hs hi
  clear h0 h1 hle hpp hT
  go_enter Tryd.func39, Tryd.ntmps39
  go_wp2_with fail
  go_ret
  exact ⟨rfl, rfl⟩

structure Fr (A : Nat → Prop) (w w' : World) : Prop where
  low : Below 0 w w'
  same : ∀ k, k < w.heap.size → ¬ A k → w'.heap[k]? = w.heap[k]?
theorem Fr.refl (A : Nat → Prop) (w : World) : Fr A w w := ⟨Below.refl _ _, fun _ _ _ => rfl⟩
theorem Fr.trans {A : Nat → Prop} {x y z : World} (h : Fr A x y) (k : Fr A y z) : Fr A x z := ⟨h.low.trans k.low, fun q hq hA => (k.same q (Nat.lt_of_lt_of_le hq h.low.size) hA).trans (h.same q hq hA)⟩
theorem Fr.of_below {A : Nat → Prop} {x y : World} (h : Below x.heap.size x y) : Fr A x y := ⟨h.mono (Nat.zero_le _), fun q hq _ => h.block q hq⟩
theorem Fr.below {A : Nat → Prop} {x y : World} {n : Nat} (h : Fr A x y) (hn : ∀ k, A k → n ≤ k) (hs : n ≤ x.heap.size) : Below n x y := ⟨h.low.os, h.low.tape, h.low.output, h.low.size, fun k hk => h.same k (by omega) (fun hA => by have := hn k hA; omega)⟩
theorem set_far {W : World} {g i q : Nat} (h : q ≠ g) (a : Value) : (W.setCell ⟨g, i, none⟩ a).heap[q]? = W.heap[q]? := Below.heap_setCell W ⟨g, i, none⟩ a q h
theorem block_set {W : World} {b k : Nat} {cs : Array Value} {t : TypeId} {fr : Nat × Nat} (h : W.heap[b]? = some (.cells cs t fr)) (v : Value) : (W.setCell ⟨b, k, none⟩ v).heap[b]? = some (.cells (cs.setIfInBounds k v) t fr) := by
  obtain ⟨hlt, he⟩ := Array.getElem?_eq_some_iff.1 h
  simp [World.setCell, Array.getElem?_modify, h]
theorem fr_set (W : World) (B i : Nat) (v : Value) : Fr (fun q => q = B) W (W.setCell ⟨B, i, none⟩ v) := ⟨(Below.refl _ W).setCell (p := ⟨B, i, none⟩) (Nat.zero_le _) v, fun _ _ hq => set_far hq v⟩
theorem Fr.mono {A A' : Nat → Prop} {W W' : World} (h : Fr A W W') (hA : ∀ q, A q → A' q) : Fr A' W W' := ⟨h.low, fun k hk hn => h.same k hk (fun ha => hn (hA k ha))⟩
theorem Fr.drew {A : Nat → Prop} {W W' : World} (h : Fr A W W') : Fr A W W'.drew := ⟨h.low.drew, h.same⟩
theorem cell_box {W : World} {b i : Nat} {T : TypeId} {cs : Array Value} {v : Value} (h : W.heap[b]? = some (.cells cs T (0, 0))) (hv : cs[i]? = some v) : W.cell? ⟨b, i, none⟩ = some v := by simp [World.cell?, h, hv]
theorem alloc_below0 (W : World) (o : Obj) : Below W.heap.size W (W.alloc o) := (Below.refl _ _).alloc (Nat.le_refl _) _
theorem cell_same {W W' : World} {a : Addr} (h : W'.heap[a.block]? = W.heap[a.block]?) : W'.cell? a = W.cell? a := by simp [World.cell?, h]
theorem Fr.cell {A : Nat → Prop} {W W' : World} (h : Fr A W W') {a : Addr} {v : Value} (hv : W.cell? a = some v) (hA : ¬ A a.block) : W'.cell? a = some v := (cell_same (h.same _ (World.block_lt_of_cell? W a hv) hA)).trans hv
theorem fr_put {A : Nat → Prop} {w W : World} (h : Fr A w W) {l : Nat} (hl : w.heap.size ≤ l) (o : Obj) : Fr A w (W.putObj l o) :=
  ⟨⟨h.low.os, h.low.tape, h.low.output, by rw [show (W.putObj l o).heap.size = W.heap.size by simp [World.putObj]]; exact h.low.size, fun k hk => absurd hk (Nat.not_lt_zero k)⟩, fun k hk hA => (World.putObj_heap_other (by omega)).trans (h.same k hk hA)⟩
theorem fr_one {W : World} (l : Nat) (o : Obj) : Fr (fun b => b = l) W (W.putObj l o) :=
  ⟨⟨rfl, rfl, rfl, by rw [show (W.putObj l o).heap.size = W.heap.size by simp [World.putObj]]; exact Nat.le_refl _, fun k hk => absurd hk (Nat.not_lt_zero k)⟩, fun _ _ hA => World.putObj_heap_other hA⟩
/-- How a round is left: the record is as the round found it, and what yield hands back is asked. -/
def rndPost (l : Nat) (r : Loop) (R : Ending → World → Prop) : Exit → Act → World → Prop
  | .normal, _, W => W.heap[l]? = some (.loop { r with state := .busy }) ∧ R (.returned (.bool true)) (W.putObj l (.loop { r with state := .ready, pending := none }))
  | .ret, _, W => W.heap[l]? = some (.loop { r with state := .busy }) ∧ R (.returned (.bool false)) (W.putObj l (.loop { r with state := .done, pending := some .ret }))
  | .exit i, _, W => W.heap[l]? = some (.loop { r with state := .busy }) ∧ R (.returned (.bool false)) (W.putObj l (.loop { r with state := .done, pending := some (.exit i) }))
  | .goto t, _, W => W.heap[l]? = some (.loop { r with state := .busy }) ∧ R (.returned (.bool false)) (W.putObj l (.loop { r with state := .done, pending := some (.goto t) }))
  | .panic _, _, _ => False
  | .outgrown, _, _ => False
theorem yield_round {F : Fence} {m : Nat} {P : Program} {l : Nat} {r : Loop} {W : World} {args : Array Value} {R : Ending → World → Prop} (hl : W.heap[l]? = some (.loop r)) (hrd : r.state = .ready) (hs : args.size = r.params.size) (hfn : F.fn r.fn)
    (hw : r.assign.wpIn (F.inRound l) m P (Exit.then (fun a1 W1 => W1.heap[l]? = some (.loop r) ∧ r.body.wpIn (F.inRound l) m P (rndPost l r R) a1 (W1.putObj l (.loop { r with state := .busy }))) (fun _ _ _ => False)) { tmps := (r.params.zip args).foldl (fun t (p, v) => t.setIfInBounds p v) r.tmps, defers := [] } W) :
    YieldAt F m P l args W R := by
  refine ⟨r.fn, _, r.assign, r.body, run_yield hl hs, roundIn_of_wpIn hfn (wpIn_mono hw ?_)⟩
  rintro e a1 W1 hp
  cases e with
  | normal =>
    obtain ⟨hl1, hb⟩ := hp
    refine ⟨_, run_beginRound hl1 hrd, wpIn_mono hb ?_⟩
    rintro e a3 W3 hp
    cases e with
    | normal => exact ⟨_, _, run_endRound none hp.1, hp.2⟩
    | ret => exact ⟨_, _, run_endRound (some .ret) hp.1, hp.2⟩
    | exit i => exact ⟨_, _, run_endRound (some (.exit i)) hp.1, hp.2⟩
    | goto t => exact ⟨_, _, run_endRound (some (.goto t)) hp.1, hp.2⟩
    | panic _ => exact hp.elim
    | outgrown => exact hp.elim
  | ret => exact hp.elim
  | exit i => exact hp.elim
  | goto t => exact hp.elim
  | panic _ => exact hp.elim
  | outgrown => exact hp.elim
theorem range_law {F : Fence} {n : Nat} {P : Program} {g : Operand} {ps : Array Tmp} {assign body : Code} {Q : Exit → Act → World → Prop} {a : Act} {w : World}
    (hro : F.round = none) (h1 : 1 ≤ n) {gf : Nat} {lb : Array Value} (hg : a.eval g = .func (.func gf) #[] lb) (hFg : F.fn gf) (eg : ∀ args w, (callFunc gf args).run P w = .ok (.enter gf args) w)
    (hcall : ∀ r : Loop, r.state = .ready → r.pending = none → r.tmps = a.tmps → r.params = ps → r.assign = assign → r.body = body → F.fn r.fn →
      CallsIn F (n - 1) P gf (#[.func (.yield (w.heap.size + 1)) #[] #[]] ++ lb) ((w.alloc (.deferred (some []))).alloc (.loop r)) fun e W => (∃ v, e = .returned v) ∧ W.heap[w.heap.size]? = some (.deferred (some [])) ∧
        ((W.heap[w.heap.size + 1]? = some (.loop r) ∧ Q .normal { a with defers := { target := .collected w.heap.size, args := #[] } :: a.defers } (W.putObj (w.heap.size + 1) (.loop { r with state := .exhausted }))) ∨
         (∃ c, W.heap[w.heap.size + 1]? = some (.loop { r with state := .done, pending := some c }) ∧ c.wpIn F n P Q { a with defers := { target := .collected w.heap.size, args := #[] } :: a.defers } (W.putObj (w.heap.size + 1) (.loop { r with state := .exhausted, pending := some c }))))) :
    (Code.rangeFunc g ps assign body).wpIn F n P Q a w := by
  refine wpIn_rangeFunc ?_
  intro fn hfn
  rw [hro]
  let r : Loop := { state := .ready, pending := none, fn, tmps := a.tmps, params := ps, assign, body, defers := w.heap.size }
  let W1 : World := (w.alloc (.deferred (some []))).alloc (.loop r)
  refine ⟨w.heap.size + 1, [{ target := .collected w.heap.size, args := #[] }], W1, { target := .fn (.func gf) lb, args := #[.func (.yield (w.heap.size + 1)) #[] #[]] }, W1, gf,
    #[.func (.yield (w.heap.size + 1)) #[] #[]] ++ lb, W1, run_enterLoop_outer fn a.tmps ps assign body, ?_, ?_, ?_, fun _ => h1, ?_⟩
  · simp only [resolve, hg]
    simp [go_sem]
  · intro f' hf'; simp [Target.leads] at hf'; subst hf'; exact hFg
  · simp [invoke, go_sem, eg]
  · refine (hcall r rfl rfl rfl rfl rfl rfl hfn).mono ?_
    rintro e W ⟨⟨v, rfl⟩, hd, (⟨hl, hq⟩ | ⟨c, hl, hq⟩)⟩
    · exact ⟨none, _, run_endLoop hl (by simp), hq⟩
    · exact ⟨some c, _, run_endLoop hl (by simp), hq⟩

variable {F : Fence} {n : Nat} {P : Program} {ops : Array Oper} {C : World → Prop}
def noDefer (l : List Oper) : Bool := l.all fun o => match o.op with | .defer _ => false | _ => true
theorem noDefer_at {l : List Oper} (h : noDefer l = true) {o : Oper} (ho : o ∈ l) : ∀ c, o.op ≠ .defer c := fun c e => by
  have := List.all_eq_true.1 h o ho
  rw [e] at this
  cases this
theorem op_round {lp : Nat} {o : Oper} {a : Act} {K : Act → Prop} {K' : Act → World → Prop} {Q' : Exit → Act → World → Prop} {w : World} (hro : F.round = some lp) (hd : ∀ c, o.op ≠ .defer c) (hw : C w) (h : ∀ a w', C w' → K a → K' a w')
    (ha : o.askedIn F P a C) (hq : o.quietIn F n P a C K) : o.wpIn F n P a w K' Q' := by
  obtain ⟨v, hv, hn⟩ := hq
  have hv' := hv w hw
  refine ⟨ha w hw, ?_⟩
  rw [hro, Oper.semAt_some lp _ o hd]
  unfold Oper.quietAtIn at hv'
  revert hv'
  generalize (execOp a.eval o).run P w = res
  intro hv'
  match res, hv' with
  | .ok (.value _) _, ⟨e1, e2⟩ => subst e1 e2; exact h _ _ hw hn
  | .ok .skip _, ⟨e1, e2⟩ => subst e1 e2; exact h _ _ hw hn
  | .ok (.enter f args) _, ⟨e1, hdp, hc⟩ => subst e1; exact ⟨hdp, hc.mono fun e w'' ⟨he, hw''⟩ => by subst he; exact h _ _ hw'' hn⟩
theorem any_round {lp : Nat} {md : Region.Mode} {Q : Act → Prop} {Q' : Exit → Act → World → Prop} (hro : F.round = some lp) (hnd : noDefer ops.toList = true) (hQ : ∀ a w, C w → Q a → Q' .normal a w) : ∀ (fuel : Nat) (listed : Array Bool) (a : Act) (w : World), C w →
    wpAnyQIn F n P md ops C Q fuel listed a → wpAnyIn F n P md ops Q' fuel listed a w
  | 0, _, _, _, hw, h => ⟨h.1, hQ _ _ hw h.2⟩
  | fuel + 1, listed, a, w, hw, h => ⟨fun h0 => hQ _ _ hw (h.1 h0), fun i hi => by
    have ih := fun a' w' (hw' : C w') => any_round (md := md) hro hnd hQ fuel (listed.setIfInBounds i true) a' w' hw'
    have hq := h.2 i hi
    unfold qOpIn at hq
    unfold wpOpIn
    cases ho : ops[i]? with
    | none => simp only [ho] at hq ⊢; exact ih _ _ hw hq
    | some o =>
      simp only [ho] at hq ⊢
      obtain ⟨ha, hq⟩ := hq
      have hmem : o ∈ ops.toList := by
        obtain ⟨hlt, he⟩ := Array.getElem?_eq_some_iff.1 ho
        rw [← he]
        exact Array.mem_toList_iff.2 (Array.getElem_mem hlt)
      by_cases hwn : Region.wanted o (yielded ops a.tmps) = true
      · rw [if_pos hwn] at hq ⊢
        exact op_round hro (noDefer_at hnd hmem) hw ih ha hq
      · rw [if_neg hwn] at hq ⊢
        exact ⟨ha w hw, ih _ _ hw hq⟩⟩
/-- One walk, in the order in which the operations are written, serves every order. -/
theorem quiet_round {lp id : Nat} {Q : Exit → Act → World → Prop} {a : Act} {w : World} {l : List Oper} (hro : F.round = some lp) (hm : P.follows .mixedOrders = true) (hB : Region.lexB .any l.toArray = true) (hnd : noDefer l = true)
    (h : wpQuietIn F n P l.toArray (fun w' => ∃ n, w' = w.drewN n) (fun a' => ∀ w', (∃ n, w' = w.drewN n) → Q .normal a' w') l a) : (Code.region id l.toArray true).wpIn F n P Q a w := by
  simp only [Region.lexB, Bool.and_eq_true] at hB
  refine wpIn_region_any hm (any_round (C := fun w' => ∃ n, w' = w.drewN n) (Q := fun a' => ∀ w', (∃ n, w' = w.drewN n) → Q .normal a' w') hro (by simpa using hnd) (fun _ w' hw' h => h w' hw') _ _ _ _ ⟨1, rfl⟩ ?_)
  have := wpAnyQIn_lex (F := F) (n := n) (C := fun w' => ∃ n, w' = w.drewN n) (md := .any) hB.1 l 0 (Array.replicate l.toArray.size false) a (by simp) (by simpa using hB.2) h
  simpa using this
/-- A round, its record hidden. -/
theorem yield_by {F : Fence} {m : Nat} {P : Program} {l : Nat} {r : Loop} {W : World} {args : Array Value} {R : Ending → World → Prop} {ca bd : Code} {tm : Array Value} {ps : Array Tmp} (ha : r.assign = ca) (hb : r.body = bd) (ht : r.tmps = tm) (hp : r.params = ps) (hl : W.heap[l]? = some (.loop r)) (hrd : r.state = .ready) (hs : args.size = ps.size) (hfn : F.fn r.fn)
    (hw : ca.wpIn (F.inRound l) m P (Exit.then (fun a1 W1 => W1.heap[l]? = some (.loop r) ∧ bd.wpIn (F.inRound l) m P (rndPost l r R) a1 (W1.putObj l (.loop { r with state := .busy }))) (fun _ _ _ => False)) { tmps := (ps.zip args).foldl (fun t (p, v) => t.setIfInBounds p v) tm, defers := [] } W) :
    YieldAt F m P l args W R := by
  subst ha hb ht hp
  exact yield_round hl hrd hs hfn hw
theorem loop_again {r : Loop} (h1 : r.state = .ready) (h2 : r.pending = none) : ({ r with state := .ready, pending := none } : Loop) = r := by
  cases r
  simp only at h1 h2
  subst h1 h2
  rfl
theorem round_inRound {F : Fence} {n : Nat} {P : Program} {lq : Nat} {f : FuncId} {tmps : Array Value} {assign body : Code} {w : World} {R : Ending → World → Prop} (l : Nat) (h : RoundIn F n P lq f tmps assign body w R) : RoundIn (F.inRound l) n P lq f tmps assign body w R := h
theorem res_bv {e : Ending} {K P Q : Prop} (h : K ∧ ((e = .returned (.bool true) ∧ P) ∨ (e = .returned (.bool false) ∧ Q))) : ∃ bv, e = .returned (.bool bv) ∧ K ∧ ((bv = true ∧ P) ∨ (bv = false ∧ Q)) := by
  obtain ⟨hk, (⟨rfl, hp⟩ | ⟨rfl, hq⟩)⟩ := h
  · exact ⟨true, rfl, hk, .inl ⟨rfl, hp⟩⟩
  · exact ⟨false, rfl, hk, .inr ⟨rfl, hq⟩⟩
theorem least (p : Nat → Prop) : ∀ n, p n → ∃ k, p k ∧ ∀ m, p m → k ≤ m := fun n => by
  induction n using Nat.strongRecOn with
  | _ n ih =>
    intro hn
    by_cases h : ∃ m, m < n ∧ p m
    · obtain ⟨m, hm, hp⟩ := h
      exact ih m hm hp
    · exact ⟨n, hn, fun m hm => Nat.le_of_not_lt fun hlt => h ⟨m, hlt, hm⟩⟩
theorem least_ex {p : Nat → Prop} (h : ∃ n, p n) : ∃ k, p k ∧ ∀ m, p m → k ≤ m := let ⟨n, hn⟩ := h; least p n hn
/-- A loop that an unseen number counts down. -/
theorem loop_fuel {F : Fence} {n : Nat} {P : Program} {c : Code} {Q : Exit → Act → World → Prop} {a : Act} {w : World} (I : Nat → Act → World → Prop) (f : Nat) (h0 : I f a w)
    (round : ∀ f a w, I f a w → c.wpIn F n P (Exit.then (fun a' w' => ∃ f', f' < f ∧ I f' a' w') Q) a w) : (Code.loop c).wpIn F n P Q a w := by
  classical
  refine wpIn_loop (I := fun a w => ∃ f, I f a w) (μ := fun a w => if h : ∃ f, I f a w then Classical.choose (least_ex h) else 0) ⟨f, h0⟩ ?_
  intro a w hI
  have hf := (Classical.choose_spec (least_ex hI)).1
  refine wpIn_mono (round _ a w hf) ?_
  intro e a' w' hq
  cases e with
  | normal =>
    obtain ⟨f', hlt, hI'⟩ := hq
    have hE : ∃ f, I f a' w' := ⟨f', hI'⟩
    refine ⟨hE, ?_⟩
    simp only [dif_pos hI, dif_pos hE]
    exact Nat.lt_of_le_of_lt ((Classical.choose_spec (least_ex hE)).2 f' hI') hlt
  | _ => exact hq
end Go.Proofs.YtdpdpjfnanjmgaaDoor
