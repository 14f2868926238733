/- A range over a function whose iterator keeps cells of its own: what its caller owes, and what it gets. -/
import Derived.RangeFuncNested
import Derived.RangeFuncBound
import Derived.RangeFuncCalls
import Derived.RangeFuncLeaves
import Derived.Shelf.Abstract
import Derived.Shelf.RegionOpen
import Derived.OwnWalkIn
import Derived.TacticsInMore
import Derived.LoopNIn
import Derived.LoopIn
import Derived.WalkKit
namespace Go.Proofs.Ytfnfbljijkjkjaa
open Go.RowKit Go.Shelf

/-- Below B nothing has turned; beyond, no cells but rows of numbers and boxes of such rows (types 3 and 117). -/
structure Mv (B : Nat) (W W' : World) : Prop where
  below : Below B W W'
  cells : ∀ (k : Nat) (cs : Array Value) (t : TypeId) (fr : Nat × Nat), W.heap[k]? = some (Obj.cells cs t fr) → t ≠ 3 → t ≠ 117 → W'.heap[k]? = some (Obj.cells cs t fr)
/-- Below B nothing has turned; beyond, no cells. -/
structure Cl (B : Nat) (W W' : World) : Prop where
  below : Below B W W'
  cells : ∀ (k : Nat) (cs : Array Value) (t : TypeId) (fr : Nat × Nat), W.heap[k]? = some (Obj.cells cs t fr) → W'.heap[k]? = some (Obj.cells cs t fr)

theorem Mv.trans {B : Nat} {X Y Z : World} (h : Mv B X Y) (k : Mv B Y Z) : Mv B X Z := ⟨h.below.trans k.below, fun i cs t fr hi h3 h4 => k.cells i cs t fr (h.cells i cs t fr hi h3 h4) h3 h4⟩
theorem Mv.mono {B B' : Nat} {X Y : World} (h : Mv B X Y) (hB : B' ≤ B) : Mv B' X Y := ⟨h.below.mono hB, h.cells⟩
theorem Cl.mv {B : Nat} {X Y : World} (h : Cl B X Y) : Mv B X Y := ⟨h.below, fun k cs t fr hk _ _ => h.cells k cs t fr hk⟩
theorem Cl.trans {B : Nat} {X Y Z : World} (h : Cl B X Y) (k : Cl B Y Z) : Cl B X Z := ⟨h.below.trans k.below, fun i cs t fr hi => k.cells i cs t fr (h.cells i cs t fr hi)⟩
theorem Cl.of_below {B : Nat} {X Y : World} (h : Below X.heap.size X Y) (hB : B ≤ X.heap.size) : Cl B X Y :=
  ⟨h.mono hB, fun k _ _ _ hk => (h.block k (Array.getElem?_eq_some_iff.1 hk).1).trans hk⟩
theorem below_putObj {B : Nat} (W : World) {l : Nat} (hB : B ≤ l) (o : Obj) : Below B W (W.putObj l o) :=
  ⟨rfl, rfl, rfl, by simp, fun k hk => World.putObj_heap_other (by omega)⟩
theorem Cl.putObj {B : Nat} {W : World} {l : Nat} {o : Obj} (hB : B ≤ l) (h : W.heap[l]? = some o) (ho : o.isCells = false) (o' : Obj) : Cl B W (W.putObj l o') :=
  ⟨below_putObj W hB o', fun k cs t fr hk => by
    by_cases e : k = l
    · subst e; rw [h] at hk; cases hk; cases ho
    · exact (World.putObj_heap_other e).trans hk⟩

theorem Mv.of_below {B : Nat} {X Y : World} (h : Below X.heap.size X Y) (hB : B ≤ X.heap.size) : Mv B X Y := (Cl.of_below h hB).mv
theorem Mv.grown {B : Nat} {X Y : World} {row : Option Nat} (hg : X.grownBy Y row) (hB : B ≤ X.heap.size) (hr : ∀ r, row = some r → B ≤ r ∧ ∃ cs fr, X.heap[r]? = some (Obj.cells cs 3 fr)) : Mv B X Y :=
  ⟨(Below.refl B X).grown hg hB (fun k e => (hr k e).1), fun k cs t fr hk h3 _ => by
    refine (hg.block k (Array.getElem?_eq_some_iff.1 hk).1 (fun e => ?_)).trans hk
    obtain ⟨_, cs', fr', h'⟩ := hr k e.symm
    rw [hk] at h'
    cases h'
    exact h3 rfl⟩
theorem Mv.box {B K : Nat} {X : World} {v : Value} (h : Boxed X K 117 v) (hB : B ≤ K) (u : Value) : Mv B X (X.setCell ⟨K, 0, none⟩ u) :=
  ⟨(Below.refl B X).setCell (p := ⟨K, 0, none⟩) hB u, fun k cs t fr hk _ h4 => by
    refine (Below.heap_setCell X ⟨K, 0, none⟩ u k (fun e => ?_)).trans hk
    have e' : k = K := e
    subst e'
    rw [show X.heap[k]? = _ from h] at hk
    cases hk
    exact h4 rfl⟩

/-- What a round leaves. -/
def roundLeaves {α : Type} (B : Nat) (Kp : α → World → World → Prop) (I : List α → World → Prop) (Ix : Code → List α → World → Prop) (pre : List α) (x : α) (W : World) : Exit → Act → World → Prop
  | .normal, _, W' => KeepsFrom B W W' ∧ Kp x W W' ∧ I (pre ++ [x]) W'
  | .ret, _, W' => KeepsFrom B W W' ∧ Ix .ret (pre ++ [x]) W'
  | .exit id, _, W' => KeepsFrom B W W' ∧ Ix (.exit id) (pre ++ [x]) W'
  | .goto t, _, W' => KeepsFrom B W W' ∧ Ix (.goto t) (pre ++ [x]) W'
  | .panic _, _, _ => False
  | .outgrown, _, _ => False

/-- The contract of an iterator that keeps numbers in cells of its own: 'Fact b x W': what it tells of memory when it hands x out (b: the heap's size when it began); 'Kp b x': what a round must keep for it. -/
def SeqM {α : Type} (P : Program) (g : Nat) (lb : Array Value) (encs : α → Array Value) (Fact : Nat → α → World → Prop) (Kp : Nat → α → World → World → Prop) (S Sp : List α → Prop) (N M : Nat) (w : World) : Prop :=
  ∀ (l : Nat) (J Jx : List α → World → Prop) (W : World), Below w.heap.size w W → (∀ s A B, J s A → Mv W.heap.size A B → J s B) → (∀ s A B, Jx s A → Mv W.heap.size A B → Jx s B) → (∀ s A, J s A → s.length ≤ M) →
    (∀ m pre x W1, J pre W1 → Fact W.heap.size x W1 → pre.length < N → YieldAt Fence.wide m P l (encs x) W1 fun e W' =>
      (e = .returned (.bool true) ∧ J (pre ++ [x]) W' ∧ Kp W.heap.size x W1 W') ∨ (e = .returned (.bool false) ∧ Jx (pre ++ [x]) W')) →
    J [] W →
    Calls P g (#[.func (.yield l) #[] #[]] ++ lb) W fun e W' => (∃ v, e = .returned v) ∧ ((∃ xs, S xs ∧ J xs W') ∨ (∃ pre, Sp pre ∧ Jx pre W'))

/-- The wide fence, in a round or in none. -/
def fen (ro : Option Nat) : Fence := { Fence.wide with round := ro }

theorem range_core {α : Type} {P : Program} {ro : Option Nat} {n : Nat} {g : Operand} {ps : Array Tmp} {assign body : Code} {Q : Exit → Act → World → Prop} {a : Act} {w : World}
    {l D b dd : Nat} {mark : List Deferred} {o : Obj} (hent : ∀ fn, ∃ W1, (Instr.enterLoop fn a.tmps ps assign body ro).run P w = .ok (l, mark) W1 ∧ W1.heap.size = b ∧ Below w.heap.size w W1 ∧
      W1.heap[l]? = some (.loop { state := .ready, pending := none, fn, tmps := a.tmps, params := ps, assign, body, defers := dd }) ∧ W1.heap[D]? = some o)
    (hDl : D ≠ l) (ho : o.isCells = false) {B0 : Nat} (hB0 : B0 ≤ w.heap.size) (hlB : w.heap.size ≤ l) (hDB : B0 ≤ D)
    {gf : Nat} {lb : Array Value} (hg : a.eval g = .func (.func gf) #[] lb) (eg : ∀ args w, (callFunc gf args).run P w = .ok (.enter gf args) w)
    {encs : α → Array Value} {Fact : Nat → α → World → Prop} {Kp : Nat → α → World → World → Prop} {S Sp : List α → Prop} {N M : Nat} {w0 : World} (hseq : SeqM P gf lb encs Fact Kp S Sp N M w0) (hb0 : Below w0.heap.size w0 w)
    (hps : ∀ x, (encs x).size = ps.size)
    (hF : ∀ x A B, Fact b x A → Cl w.heap.size A B → Fact b x B) (hKc : ∀ x A B, Cl w.heap.size A B → Kp b x A B) (hKt : ∀ x A B C, Kp b x A B → Kp b x B C → Kp b x A C)
    (I : List α → World → Prop) (Ix : Code → List α → World → Prop) (hI : ∀ s A B, I s A → Mv w.heap.size A B → I s B) (hIx : ∀ c s A B, Ix c s A → Mv w.heap.size A B → Ix c s B) (hIM : ∀ s A, I s A → s.length ≤ M) (h0 : I [] w)
    (Ax : α → Act → World → Prop) (hAx : ∀ x a' A B, Ax x a' A → Cl w.heap.size A B → Ax x a' B)
    (hassign : ∀ (pre : List α) (x : α) (W : World) (K : Act → World → Prop), I pre W → Fact b x W → (∀ a' W', Below W.heap.size W W' → Ax x a' W' → K a' W') →
      ∀ m, assign.wpIn (Fence.wide.inRound l) m P (Exit.then K (fun _ _ _ => False)) { tmps := (ps.zip (encs x)).foldl (fun t (p, v) => t.setIfInBounds p v) a.tmps, defers := [] } W)
    (hbody : ∀ (pre : List α) (x : α) (a' : Act) (W : World), (∃ r, W.heap[l]? = some (.loop r)) → I pre W → Fact b x W → Ax x a' W → pre.length < N → ∀ m, body.wpIn (Fence.wide.inRound l) m P (roundLeaves B0 (Kp b) I Ix pre x W) a' W)
    (hdone : ∀ (xs : List α) (W : World), S xs → I xs W → W.heap[D]? = some o → Q .normal { a with defers := mark ++ a.defers } W)
    (hstop : ∀ (c : Code) (pre : List α) (W : World), Sp pre → Ix c pre W → W.heap[D]? = some o → c.wpIn (fen ro) n P Q { a with defers := mark ++ a.defers } W) :
    (Code.rangeFunc g ps assign body).wpIn (fen ro) n P Q a w := by
  refine wpIn_rangeFunc ?_
  intro fn _
  obtain ⟨W1, he, hsz, hbel, hl1, hD1⟩ := hent fn
  obtain ⟨rec, hrec⟩ : ∃ rec : LoopState → Option Code → Loop, rec = fun st pe => { state := st, pending := pe, fn, tmps := a.tmps, params := ps, assign, body, defers := dd } := ⟨_, rfl⟩
  have hL1 : W1.heap[l]? = some (.loop (rec .ready none)) := by rw [hrec]; exact hl1
  have hlb : l < b := by rw [← hsz]; exact (Array.getElem?_eq_some_iff.1 hl1).1
  have hDb : D < b := by rw [← hsz]; exact (Array.getElem?_eq_some_iff.1 hD1).1
  have hwb : w.heap.size ≤ b := by rw [← hsz]; exact hbel.size
  -- the loop's record turns; nothing that its caller or its iterator speaks of does
  have turn : ∀ {W : World} {r : Loop} (r' : Loop), W.heap[l]? = some (.loop r) → Cl w.heap.size W (W.putObj l (.loop r')) := fun r' h => Cl.putObj hlB h rfl _
  have other : ∀ {W : World} (r' : Loop), W.heap[D]? = some o → (W.putObj l (.loop r')).heap[D]? = some o := fun r' h => (World.putObj_heap_other hDl).trans h
  have same : ∀ {W : World} {r : Loop} (r' : Loop), W.heap[l]? = some (.loop r) → (W.putObj l (.loop r')).heap[l]? = some (.loop r') := fun r' h => World.putObj_heap_same (Array.getElem?_eq_some_iff.1 h).1
  refine ⟨l, mark, W1, { target := .fn (.func gf) lb, args := #[.func (.yield l) #[] #[]] }, W1, gf, #[.func (.yield l) #[] #[]] ++ lb, W1, he, ?_, fun _ _ => trivial, ?_, (fun h => by cases h), ?_⟩
  · simp only [resolve, hg]
    simp [go_sem]
  · simp [invoke, go_sem, eg]
  have hcall := hseq l (fun pre W => I pre W ∧ W.heap[l]? = some (.loop (rec .ready none)) ∧ W.heap[D]? = some o)
    (fun pre W => ∃ c, Ix c pre W ∧ W.heap[l]? = some (.loop (rec .done (some c))) ∧ W.heap[D]? = some o) W1 (hb0.trans (hbel.mono hb0.size))
    (fun s A B hs hm => ⟨hI s A B hs.1 (hm.mono (by rw [hsz]; exact hwb)), (hm.below.block l (by rw [hsz]; exact hlb)).trans hs.2.1, (hm.below.block D (by rw [hsz]; exact hDb)).trans hs.2.2⟩)
    (fun s A B ⟨c, hc, h1, h2⟩ hm => ⟨c, hIx c s A B hc (hm.mono (by rw [hsz]; exact hwb)), (hm.below.block l (by rw [hsz]; exact hlb)).trans h1, (hm.below.block D (by rw [hsz]; exact hDb)).trans h2⟩)
    (fun s A hs => hIM s A hs.1) ?_ ⟨hI _ _ _ h0 (Cl.of_below hbel (Nat.le_refl _)).mv, hL1, hD1⟩
  · refine CallsIn.mono (show CallsIn (fen ro) (n - 1) P gf _ W1 _ from (callsIn_wide (n := n - 1)).2 hcall) ?_
    rintro e W2 ⟨⟨v, rfl⟩, (⟨xs, hS, hi, hl, hk⟩ | ⟨pre, hSp, c, hi, hl, hk⟩)⟩
    · refine ⟨none, _, by rw [run_endLoop hl (by rw [hrec]; simp)]; rw [hrec], ?_⟩
      exact hdone xs _ hS (hI _ _ _ hi (turn _ hl).mv) (other _ hk)
    · refine ⟨some c, _, by rw [run_endLoop hl (by rw [hrec]; simp)]; rw [hrec], ?_⟩
      exact hstop c pre _ hSp (hIx _ _ _ _ hi (turn _ hl).mv) (other _ hk)
  · rintro m pre x W ⟨hi, hl, hk⟩ hfact hlen
    rw [hsz] at hfact
    have hy := run_yield (P := P) (args := encs x) hl (by rw [hrec]; exact hps x)
    rw [hrec] at hy
    refine ⟨fn, _, assign, body, hy, roundIn_of_wpIn trivial (hassign pre x W _ hi hfact ?_ m)⟩
    clear hy
    intro a' Wa hba hax
    have hla : Wa.heap[l]? = some (.loop (rec .ready none)) := (hba.block l (Array.getElem?_eq_some_iff.1 hl).1).trans hl
    have hka : Wa.heap[D]? = some o := (hba.block D (Array.getElem?_eq_some_iff.1 hk).1).trans hk
    have hlt : l < W.heap.size := (Array.getElem?_eq_some_iff.1 hl).1
    have hca : Cl w.heap.size W Wa := Cl.of_below hba (by omega)
    refine ⟨_, run_beginRound hla (by rw [hrec]), ?_⟩
    have hcb := turn { rec .ready none with state := .busy } hla
    have hlb2 := same { rec .ready none with state := .busy } hla
    have hkb := other { rec .ready none with state := .busy } hka
    refine wpIn_mono (hbody pre x a' _ ⟨_, hlb2⟩ (hI _ _ _ hi (hca.mv.trans hcb.mv)) (hF _ _ _ hfact (hca.trans hcb)) (hAx _ _ _ _ hax hcb) hlen m) ?_
    have ends : ∀ (jump : Option Code) (W3 : World), KeepsFrom B0 (Wa.putObj l (.loop { rec .ready none with state := .busy })) W3 →
        W3.heap[l]? = some (.loop { rec .ready none with state := .busy }) ∧ W3.heap[D]? = some o ∧
        (Instr.endRound l jump).run P W3 = .ok (.bool jump.isNone) (W3.putObj l (.loop (rec (if jump.isNone then .ready else .done) jump))) := fun jump W3 hk3 => by
      have hl3 := hk3.same l _ (by omega) hlb2 rfl
      refine ⟨hl3, hk3.same D _ hDB hkb ho, ?_⟩
      have := run_endRound (P := P) jump hl3
      rw [hrec] at this ⊢
      exact this
    rintro e a3 W3 hp
    cases e with
    | normal =>
      obtain ⟨hk3, hkp3, hi3⟩ := hp
      obtain ⟨hl3, hD3, hr3⟩ := ends none W3 hk3
      refine ⟨_, _, hr3, .inl ⟨rfl, ⟨hI _ _ _ hi3 (turn _ hl3).mv, same _ hl3, other _ hD3⟩, ?_⟩⟩
      rw [hsz]
      exact hKt _ _ _ _ (hKc _ _ _ (hca.trans hcb)) (hKt _ _ _ _ hkp3 (hKc _ _ _ (turn _ hl3)))
    | ret =>
      obtain ⟨hk3, hi3⟩ := hp
      obtain ⟨hl3, hD3, hr3⟩ := ends (some .ret) W3 hk3
      exact ⟨_, _, hr3, .inr ⟨rfl, .ret, hIx _ _ _ _ hi3 (turn _ hl3).mv, same _ hl3, other _ hD3⟩⟩
    | exit id =>
      obtain ⟨hk3, hi3⟩ := hp
      obtain ⟨hl3, hD3, hr3⟩ := ends (some (.exit id)) W3 hk3
      exact ⟨_, _, hr3, .inr ⟨rfl, .exit id, hIx _ _ _ _ hi3 (turn _ hl3).mv, same _ hl3, other _ hD3⟩⟩
    | goto t =>
      obtain ⟨hk3, hi3⟩ := hp
      obtain ⟨hl3, hD3, hr3⟩ := ends (some (.goto t)) W3 hk3
      exact ⟨_, _, hr3, .inr ⟨rfl, .goto t, hIx _ _ _ _ hi3 (turn _ hl3).mv, same _ hl3, other _ hD3⟩⟩
    | panic ch => exact hp.elim
    | outgrown => exact hp.elim
end Go.Proofs.Ytfnfbljijkjkjaa
