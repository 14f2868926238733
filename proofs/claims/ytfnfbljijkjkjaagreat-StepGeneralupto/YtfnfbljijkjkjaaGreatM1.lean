/- Texts laid together: TLaw, TWalk, TSize, THas, TRSize, ShelfC, TCmp, TSep, TClone. -/
import Derived.RangeFuncNested
import Derived.RangeFuncBound
import Derived.RangeFuncCalls
import Derived.RangeFuncLeaves
import Derived.Shelf.Abstract
import Derived.Shelf.RegionOpen
import Derived.OwnWalkIn
import Derived.TacticsInMore
import Derived.LoopNIn
import Derived.LoopIn
import Derived.WalkKit
import Derived.Test.YtfnfbljijkjkjaaGreatRows
import Derived.Deep.AppendLies
import Derived.Deep.AppendSrc
import Derived.Laws.EntriesVeiled
import Derived.Laws.ResultCell
import Derived.Shelf.Small.Strs
import Derived.Shelf.Small.Wraps
import Derived.Test.YtfnfbljijkjkjaaGreatProg
import Derived.Sort.Grow
import Derived.WalkSpells
import Derived.WalkLawsBesides
import Derived.Test.YtfnfbljijkjkjaaGreatM0
/- A range over a function whose iterator keeps cells of its own: what its caller owes, and what it gets. -/
namespace Go.Proofs.YtfnfbljijkjkjaaGreat
open Go.RowKit Go.Shelf

/-- Below B nothing has turned; beyond, no cells but rows of numbers and boxes of such rows (types 3 and 130). -/
structure Mv (B : Nat) (W W' : World) : Prop where
  below : Below B W W'
  cells : ∀ (k : Nat) (cs : Array Value) (t : TypeId) (fr : Nat × Nat), W.heap[k]? = some (Obj.cells cs t fr) → t ≠ 3 → t ≠ 130 → W'.heap[k]? = some (Obj.cells cs t fr)
/-- Below B nothing has turned; beyond, no cells. -/
structure Cl (B : Nat) (W W' : World) : Prop where
  below : Below B W W'
  cells : ∀ (k : Nat) (cs : Array Value) (t : TypeId) (fr : Nat × Nat), W.heap[k]? = some (Obj.cells cs t fr) → W'.heap[k]? = some (Obj.cells cs t fr)

theorem Mv.trans {B : Nat} {X Y Z : World} (h : Mv B X Y) (k : Mv B Y Z) : Mv B X Z := ⟨h.below.trans k.below, fun i cs t fr hi h3 h4 => k.cells i cs t fr (h.cells i cs t fr hi h3 h4) h3 h4⟩
theorem Mv.mono {B B' : Nat} {X Y : World} (h : Mv B X Y) (hB : B' ≤ B) : Mv B' X Y := ⟨h.below.mono hB, h.cells⟩
theorem Cl.mv {B : Nat} {X Y : World} (h : Cl B X Y) : Mv B X Y := ⟨h.below, fun k cs t fr hk _ _ => h.cells k cs t fr hk⟩
theorem Cl.trans {B : Nat} {X Y Z : World} (h : Cl B X Y) (k : Cl B Y Z) : Cl B X Z := ⟨h.below.trans k.below, fun i cs t fr hi => k.cells i cs t fr (h.cells i cs t fr hi)⟩
theorem Cl.of_below {B : Nat} {X Y : World} (h : Below X.heap.size X Y) (hB : B ≤ X.heap.size) : Cl B X Y :=
  ⟨h.mono hB, fun k _ _ _ hk => (h.block k (Array.getElem?_eq_some_iff.1 hk).1).trans hk⟩
theorem below_putObj {B : Nat} (W : World) {l : Nat} (hB : B ≤ l) (o : Obj) : Below B W (W.putObj l o) :=
  ⟨rfl, rfl, rfl, by simp, fun k hk => World.putObj_heap_other (by omega)⟩
theorem Cl.putObj {B : Nat} {W : World} {l : Nat} {o : Obj} (hB : B ≤ l) (h : W.heap[l]? = some o) (ho : o.isCells = false) (o' : Obj) : Cl B W (W.putObj l o') :=
  ⟨below_putObj W hB o', fun k cs t fr hk => by
    by_cases e : k = l
    · subst e; rw [h] at hk; cases hk; cases ho
    · exact (World.putObj_heap_other e).trans hk⟩

theorem Mv.of_below {B : Nat} {X Y : World} (h : Below X.heap.size X Y) (hB : B ≤ X.heap.size) : Mv B X Y := (Cl.of_below h hB).mv
theorem Mv.grown {B : Nat} {X Y : World} {row : Option Nat} (hg : X.grownBy Y row) (hB : B ≤ X.heap.size) (hr : ∀ r, row = some r → B ≤ r ∧ ∃ cs fr, X.heap[r]? = some (Obj.cells cs 3 fr)) : Mv B X Y :=
  ⟨(Below.refl B X).grown hg hB (fun k e => (hr k e).1), fun k cs t fr hk h3 _ => by
    refine (hg.block k (Array.getElem?_eq_some_iff.1 hk).1 (fun e => ?_)).trans hk
    obtain ⟨_, cs', fr', h'⟩ := hr k e.symm
    rw [hk] at h'
    cases h'
    exact h3 rfl⟩
theorem Mv.box {B K : Nat} {X : World} {v : Value} (h : Boxed X K 130 v) (hB : B ≤ K) (u : Value) : Mv B X (X.setCell ⟨K, 0, none⟩ u) :=
  ⟨(Below.refl B X).setCell (p := ⟨K, 0, none⟩) hB u, fun k cs t fr hk _ h4 => by
    refine (Below.heap_setCell X ⟨K, 0, none⟩ u k (fun e => ?_)).trans hk
    have e' : k = K := e
    subst e'
    rw [show X.heap[k]? = _ from h] at hk
    cases hk
    exact h4 rfl⟩

/-- What a round leaves. -/
def roundLeaves {α : Type} (B : Nat) (Kp : α → World → World → Prop) (I : List α → World → Prop) (Ix : Code → List α → World → Prop) (pre : List α) (x : α) (W : World) : Exit → Act → World → Prop
  | .normal, _, W' => KeepsFrom B W W' ∧ Kp x W W' ∧ I (pre ++ [x]) W'
  | .ret, _, W' => KeepsFrom B W W' ∧ Ix .ret (pre ++ [x]) W'
  | .exit id, _, W' => KeepsFrom B W W' ∧ Ix (.exit id) (pre ++ [x]) W'
  | .goto t, _, W' => KeepsFrom B W W' ∧ Ix (.goto t) (pre ++ [x]) W'
  | .panic _, _, _ => False
  | .outgrown, _, _ => False

/-- The contract of an iterator that keeps numbers in cells of its own: 'Fact b x W': what it tells of memory when it hands x out (b: the heap's size when it began); 'Kp b x': what a round must keep for it. -/
def SeqM {α : Type} (P : Program) (g : Nat) (lb : Array Value) (encs : α → Array Value) (Fact : Nat → α → World → Prop) (Kp : Nat → α → World → World → Prop) (S Sp : List α → Prop) (N M : Nat) (w : World) : Prop :=
  ∀ (l : Nat) (J Jx : List α → World → Prop) (W : World), Below w.heap.size w W → (∀ s A B, J s A → Mv W.heap.size A B → J s B) → (∀ s A B, Jx s A → Mv W.heap.size A B → Jx s B) → (∀ s A, J s A → s.length ≤ M) →
    (∀ m pre x W1, J pre W1 → Fact W.heap.size x W1 → pre.length < N → YieldAt Fence.wide m P l (encs x) W1 fun e W' =>
      (e = .returned (.bool true) ∧ J (pre ++ [x]) W' ∧ Kp W.heap.size x W1 W') ∨ (e = .returned (.bool false) ∧ Jx (pre ++ [x]) W')) →
    J [] W →
    Calls P g (#[.func (.yield l) #[] #[]] ++ lb) W fun e W' => (∃ v, e = .returned v) ∧ ((∃ xs, S xs ∧ J xs W') ∨ (∃ pre, Sp pre ∧ Jx pre W'))

/-- The wide fence, in a round or in none. -/
def fen (ro : Option Nat) : Fence := { Fence.wide with round := ro }

theorem range_core {α : Type} {P : Program} {ro : Option Nat} {n : Nat} {g : Operand} {ps : Array Tmp} {assign body : Code} {Q : Exit → Act → World → Prop} {a : Act} {w : World}
    {l D b dd : Nat} {mark : List Deferred} {o : Obj} (hent : ∀ fn, ∃ W1, (Instr.enterLoop fn a.tmps ps assign body ro).run P w = .ok (l, mark) W1 ∧ W1.heap.size = b ∧ Below w.heap.size w W1 ∧
      W1.heap[l]? = some (.loop { state := .ready, pending := none, fn, tmps := a.tmps, params := ps, assign, body, defers := dd }) ∧ W1.heap[D]? = some o)
    (hDl : D ≠ l) (ho : o.isCells = false) {B0 : Nat} (hB0 : B0 ≤ w.heap.size) (hlB : w.heap.size ≤ l) (hDB : B0 ≤ D)
    {gf : Nat} {lb : Array Value} (hg : a.eval g = .func (.func gf) #[] lb) (eg : ∀ args w, (callFunc gf args).run P w = .ok (.enter gf args) w)
    {encs : α → Array Value} {Fact : Nat → α → World → Prop} {Kp : Nat → α → World → World → Prop} {S Sp : List α → Prop} {N M : Nat} {w0 : World} (hseq : SeqM P gf lb encs Fact Kp S Sp N M w0) (hb0 : Below w0.heap.size w0 w)
    (hps : ∀ x, (encs x).size = ps.size)
    (hF : ∀ x A B, Fact b x A → Cl w.heap.size A B → Fact b x B) (hKc : ∀ x A B, Cl w.heap.size A B → Kp b x A B) (hKt : ∀ x A B C, Kp b x A B → Kp b x B C → Kp b x A C)
    (I : List α → World → Prop) (Ix : Code → List α → World → Prop) (hI : ∀ s A B, I s A → Mv w.heap.size A B → I s B) (hIx : ∀ c s A B, Ix c s A → Mv w.heap.size A B → Ix c s B) (hIM : ∀ s A, I s A → s.length ≤ M) (h0 : I [] w)
    (Ax : α → Act → World → Prop) (hAx : ∀ x a' A B, Ax x a' A → Cl w.heap.size A B → Ax x a' B)
    (hassign : ∀ (pre : List α) (x : α) (W : World) (K : Act → World → Prop), I pre W → Fact b x W → (∀ a' W', Below W.heap.size W W' → Ax x a' W' → K a' W') →
      ∀ m, assign.wpIn (Fence.wide.inRound l) m P (Exit.then K (fun _ _ _ => False)) { tmps := (ps.zip (encs x)).foldl (fun t (p, v) => t.setIfInBounds p v) a.tmps, defers := [] } W)
    (hbody : ∀ (pre : List α) (x : α) (a' : Act) (W : World), (∃ r, W.heap[l]? = some (.loop r)) → I pre W → Fact b x W → Ax x a' W → pre.length < N → ∀ m, body.wpIn (Fence.wide.inRound l) m P (roundLeaves B0 (Kp b) I Ix pre x W) a' W)
    (hdone : ∀ (xs : List α) (W : World), S xs → I xs W → W.heap[D]? = some o → Q .normal { a with defers := mark ++ a.defers } W)
    (hstop : ∀ (c : Code) (pre : List α) (W : World), Sp pre → Ix c pre W → W.heap[D]? = some o → c.wpIn (fen ro) n P Q { a with defers := mark ++ a.defers } W) :
    (Code.rangeFunc g ps assign body).wpIn (fen ro) n P Q a w := by
  refine wpIn_rangeFunc ?_
  intro fn _
  obtain ⟨W1, he, hsz, hbel, hl1, hD1⟩ := hent fn
  obtain ⟨rec, hrec⟩ : ∃ rec : LoopState → Option Code → Loop, rec = fun st pe => { state := st, pending := pe, fn, tmps := a.tmps, params := ps, assign, body, defers := dd } := ⟨_, rfl⟩
  have hL1 : W1.heap[l]? = some (.loop (rec .ready none)) := by rw [hrec]; exact hl1
  have hlb : l < b := by rw [← hsz]; exact (Array.getElem?_eq_some_iff.1 hl1).1
  have hDb : D < b := by rw [← hsz]; exact (Array.getElem?_eq_some_iff.1 hD1).1
  have hwb : w.heap.size ≤ b := by rw [← hsz]; exact hbel.size
  -- the loop's record turns; nothing that its caller or its iterator speaks of does
  have turn : ∀ {W : World} {r : Loop} (r' : Loop), W.heap[l]? = some (.loop r) → Cl w.heap.size W (W.putObj l (.loop r')) := fun r' h => Cl.putObj hlB h rfl _
  have other : ∀ {W : World} (r' : Loop), W.heap[D]? = some o → (W.putObj l (.loop r')).heap[D]? = some o := fun r' h => (World.putObj_heap_other hDl).trans h
  have same : ∀ {W : World} {r : Loop} (r' : Loop), W.heap[l]? = some (.loop r) → (W.putObj l (.loop r')).heap[l]? = some (.loop r') := fun r' h => World.putObj_heap_same (Array.getElem?_eq_some_iff.1 h).1
  refine ⟨l, mark, W1, { target := .fn (.func gf) lb, args := #[.func (.yield l) #[] #[]] }, W1, gf, #[.func (.yield l) #[] #[]] ++ lb, W1, he, ?_, fun _ _ => trivial, ?_, (fun h => by cases h), ?_⟩
  · simp only [resolve, hg]
    simp [go_sem]
  · simp [invoke, go_sem, eg]
  have hcall := hseq l (fun pre W => I pre W ∧ W.heap[l]? = some (.loop (rec .ready none)) ∧ W.heap[D]? = some o)
    (fun pre W => ∃ c, Ix c pre W ∧ W.heap[l]? = some (.loop (rec .done (some c))) ∧ W.heap[D]? = some o) W1 (hb0.trans (hbel.mono hb0.size))
    (fun s A B hs hm => ⟨hI s A B hs.1 (hm.mono (by rw [hsz]; exact hwb)), (hm.below.block l (by rw [hsz]; exact hlb)).trans hs.2.1, (hm.below.block D (by rw [hsz]; exact hDb)).trans hs.2.2⟩)
    (fun s A B ⟨c, hc, h1, h2⟩ hm => ⟨c, hIx c s A B hc (hm.mono (by rw [hsz]; exact hwb)), (hm.below.block l (by rw [hsz]; exact hlb)).trans h1, (hm.below.block D (by rw [hsz]; exact hDb)).trans h2⟩)
    (fun s A hs => hIM s A hs.1) ?_ ⟨hI _ _ _ h0 (Cl.of_below hbel (Nat.le_refl _)).mv, hL1, hD1⟩
  · refine CallsIn.mono (show CallsIn (fen ro) (n - 1) P gf _ W1 _ from (callsIn_wide (n := n - 1)).2 hcall) ?_
    rintro e W2 ⟨⟨v, rfl⟩, (⟨xs, hS, hi, hl, hk⟩ | ⟨pre, hSp, c, hi, hl, hk⟩)⟩
    · refine ⟨none, _, by rw [run_endLoop hl (by rw [hrec]; simp)]; rw [hrec], ?_⟩
      exact hdone xs _ hS (hI _ _ _ hi (turn _ hl).mv) (other _ hk)
    · refine ⟨some c, _, by rw [run_endLoop hl (by rw [hrec]; simp)]; rw [hrec], ?_⟩
      exact hstop c pre _ hSp (hIx _ _ _ _ hi (turn _ hl).mv) (other _ hk)
  · rintro m pre x W ⟨hi, hl, hk⟩ hfact hlen
    rw [hsz] at hfact
    have hy := run_yield (P := P) (args := encs x) hl (by rw [hrec]; exact hps x)
    rw [hrec] at hy
    refine ⟨fn, _, assign, body, hy, roundIn_of_wpIn trivial (hassign pre x W _ hi hfact ?_ m)⟩
    clear hy
    intro a' Wa hba hax
    have hla : Wa.heap[l]? = some (.loop (rec .ready none)) := (hba.block l (Array.getElem?_eq_some_iff.1 hl).1).trans hl
    have hka : Wa.heap[D]? = some o := (hba.block D (Array.getElem?_eq_some_iff.1 hk).1).trans hk
    have hlt : l < W.heap.size := (Array.getElem?_eq_some_iff.1 hl).1
    have hca : Cl w.heap.size W Wa := Cl.of_below hba (by omega)
    refine ⟨_, run_beginRound hla (by rw [hrec]), ?_⟩
    have hcb := turn { rec .ready none with state := .busy } hla
    have hlb2 := same { rec .ready none with state := .busy } hla
    have hkb := other { rec .ready none with state := .busy } hka
    refine wpIn_mono (hbody pre x a' _ ⟨_, hlb2⟩ (hI _ _ _ hi (hca.mv.trans hcb.mv)) (hF _ _ _ hfact (hca.trans hcb)) (hAx _ _ _ _ hax hcb) hlen m) ?_
    have ends : ∀ (jump : Option Code) (W3 : World), KeepsFrom B0 (Wa.putObj l (.loop { rec .ready none with state := .busy })) W3 →
        W3.heap[l]? = some (.loop { rec .ready none with state := .busy }) ∧ W3.heap[D]? = some o ∧
        (Instr.endRound l jump).run P W3 = .ok (.bool jump.isNone) (W3.putObj l (.loop (rec (if jump.isNone then .ready else .done) jump))) := fun jump W3 hk3 => by
      have hl3 := hk3.same l _ (by omega) hlb2 rfl
      refine ⟨hl3, hk3.same D _ hDB hkb ho, ?_⟩
      have := run_endRound (P := P) jump hl3
      rw [hrec] at this ⊢
      exact this
    rintro e a3 W3 hp
    cases e with
    | normal =>
      obtain ⟨hk3, hkp3, hi3⟩ := hp
      obtain ⟨hl3, hD3, hr3⟩ := ends none W3 hk3
      refine ⟨_, _, hr3, .inl ⟨rfl, ⟨hI _ _ _ hi3 (turn _ hl3).mv, same _ hl3, other _ hD3⟩, ?_⟩⟩
      rw [hsz]
      exact hKt _ _ _ _ (hKc _ _ _ (hca.trans hcb)) (hKt _ _ _ _ hkp3 (hKc _ _ _ (turn _ hl3)))
    | ret =>
      obtain ⟨hk3, hi3⟩ := hp
      obtain ⟨hl3, hD3, hr3⟩ := ends (some .ret) W3 hk3
      exact ⟨_, _, hr3, .inr ⟨rfl, .ret, hIx _ _ _ _ hi3 (turn _ hl3).mv, same _ hl3, other _ hD3⟩⟩
    | exit id =>
      obtain ⟨hk3, hi3⟩ := hp
      obtain ⟨hl3, hD3, hr3⟩ := ends (some (.exit id)) W3 hk3
      exact ⟨_, _, hr3, .inr ⟨rfl, .exit id, hIx _ _ _ _ hi3 (turn _ hl3).mv, same _ hl3, other _ hD3⟩⟩
    | goto t =>
      obtain ⟨hk3, hi3⟩ := hp
      obtain ⟨hl3, hD3, hr3⟩ := ends (some (.goto t)) W3 hk3
      exact ⟨_, _, hr3, .inr ⟨rfl, .goto t, hIx _ _ _ _ hi3 (turn _ hl3).mv, same _ hl3, other _ hD3⟩⟩
    | panic ch => exact hp.elim
    | outgrown => exact hp.elim
end Go.Proofs.YtfnfbljijkjkjaaGreat
/- What places of package terms hands out, to any loop: each place and the term there, each node ahead of its arguments. -/
namespace Go.Proofs.YtfnfbljijkjkjaaGreat
open Go.RowKit Go.Shelf Go.Deep

attribute [local go_sem] Oper.semAt_some

/-- A place, and the term there. -/
abbrev Pl := List Int × (ByteArray × Int) × Fo
def placesF (path : List Int) : Nat → Fo → List Pl
  | _, .nil => []
  | i, .node _ _ x l r => (path ++ [(i : Int)], x, l) :: placesF (path ++ [(i : Int)]) 0 l ++ placesF path (i + 1) r
def placesT (path : List Int) (x : ByteArray × Int) (l : Fo) : List Pl := (path, x, l) :: placesF path 0 l
theorem places_len : ∀ (F : Fo) (path : List Int) (i : Nat), (placesF path i F).length = nodesF F
  | .nil, _, _ => rfl
  | .node _ _ x l r, path, i => by
    simp only [placesF, List.cons_append, List.length_cons, List.length_append, nodesF]
    rw [places_len l, places_len r]

/-- What is handed out: the path in a slice, the term as a value. -/
structure El where
  path : List Int
  x : ByteArray × Int
  l : Fo
  pv : Value
  a : Option Addr
  c : Nat
def El.info (e : El) : Pl := (e.path, e.x, e.l)
def El.encs (e : El) : Array Value := #[e.pv, .agg #[.string e.x.1, .int .i64 e.x.2, .slice e.a (lenF e.l) e.c]]
/-- What is so in memory when it is handed out. -/
structure Handed (b : Nat) (e : El) (W : World) : Prop where
  row : W.ownsRow b 3 1 e.pv e.path.length (intsV e.path)
  at_ : TmAt W e.x e.a e.c e.l
/-- What a round keeps. -/
structure Leaves (n0 : Nat) (e : El) (W W' : World) : Prop where
  below : Below n0 W W'
  kept : ∀ (k : Nat) (cs : Array Value) (t : TypeId) (fr : Nat × Nat), W.heap[k]? = some (Obj.cells cs t fr) → (t = 26 ∨ t = 130 ∨ t = 142 ∨ t = 93 ∨ some k = e.pv.ownBlock) → W'.heap[k]? = some (Obj.cells cs t fr)

/-- The iterator's own cells. -/
structure St (w0 : World) (b lp : Nat) (W : World) (path : List Int) (v : Value) : Prop where
  y : Boxed W b 142 (.func (.yield lp) #[] #[])
  p : Boxed W (b + 1) 130 v
  w : Boxed W (b + 2) 93 (.func (.func 95) #[] #[.pointer (some ⟨b, 0, none⟩), .pointer (some ⟨b + 1, 0, none⟩), .pointer (some ⟨b + 2, 0, none⟩)])
  row : W.ownsRow b 3 1 v path.length (intsV path)
  low : Below w0.heap.size w0 W

theorem St.below {w0 : World} {b lp : Nat} {W W' : World} {path : List Int} {v : Value} (h : St w0 b lp W path v) (hb : Below W.heap.size W W') : St w0 b lp W' path v :=
  ⟨boxed_below h.y hb, boxed_below h.p hb, boxed_below h.w hb, owns_below h.row hb, h.low.trans (hb.mono h.low.size)⟩
theorem St.leaves {w0 : World} {b lp : Nat} {W W' : World} {e : El} (h : St w0 b lp W e.path e.pv) (hk : Leaves w0.heap.size e W W') : St w0 b lp W' e.path e.pv :=
  ⟨hk.kept _ _ _ _ h.y (by simp), hk.kept _ _ _ _ h.p (by simp), hk.kept _ _ _ _ h.w (by simp), owns_block h.row (fun g hg => by
    obtain ⟨_, cur, hc⟩ := owns_cells h.row hg
    rw [hc]
    exact hk.kept g _ _ _ hc (by simp [hg])), h.low.trans hk.below⟩

theorem TBox.mv {B0 : Nat} {W W' : World} {B : Nat} {x : ByteArray × Int} {a : Option Addr} {n c : Nat} (h : TBox W B x a n c) (hm : Mv B0 W W') : TBox W' B x a n c := hm.cells _ _ _ _ h (by decide) (by decide)
theorem TBox.leaves {n0 : Nat} {e : El} {W W' : World} {B : Nat} {x : ByteArray × Int} {a : Option Addr} {n c : Nat} (h : TBox W B x a n c) (hk : Leaves n0 e W W') : TBox W' B x a n c := hk.kept _ _ _ _ h (by simp)
theorem owns_less {W : World} {base e g k cap : Nat} {xs : List Value} {y : Value} (h : W.ownsRow base e 1 (.slice (some ⟨g, 0, none⟩) (k + 1) cap) (k + 1) (xs ++ [y])) : W.ownsRow base e 1 (.slice (some ⟨g, 0, none⟩) k cap) k xs := by
  obtain ⟨hl, h⟩ := h
  have hl' : xs.length = k := by simp at hl; omega
  refine ⟨by omega, ?_⟩
  rcases h with ⟨hv, _⟩ | ⟨g', cap', cur, hv, hb, hh, hnc, hcm, hsz, hcur⟩
  · cases hv
  · simp only [Value.slice.injEq, Option.some.injEq, Addr.mk.injEq, and_true, true_and] at hv
    obtain ⟨rfl, rfl⟩ := hv
    refine .inr ⟨g, cap, cur, rfl, hb, hh, by omega, hcm, hsz, ?_⟩
    have : cur.toList.take (k * 1) = (cur.toList.take ((k + 1) * 1)).take (k * 1) := by rw [List.take_take]; congr 1; omega
    rw [this, hcur, List.take_append_of_le_length (by omega), List.take_of_length_le (by omega)]

theorem ints_snoc (path : List Int) (j : Int) : intsV (path ++ [j]) = intsV path ++ [.int .i64 j] := by simp [intsV]
/-- The path with one number more. -/
theorem St.push {w0 : World} {b lp : Nat} {W w1 : World} {path : List Int} {v : Value} {j : Int} {g cap : Nat} (hb0 : w0.heap.size ≤ b) (h : St w0 b lp W path v) (hg : W.grownBy w1 v.ownBlock)
    (ho : w1.ownsRow b 3 1 (.slice (some ⟨g, 0, none⟩) (path.length + 1) cap) (path.length + 1) (intsV path ++ [.int .i64 j])) :
    Boxed w1 (b + 1) 130 v ∧ Mv b W w1 ∧ St w0 b lp (w1.setCell ⟨b + 1, 0, none⟩ (.slice (some ⟨g, 0, none⟩) (path.length + 1) cap)) (path ++ [j]) (.slice (some ⟨g, 0, none⟩) (path.length + 1) cap) := by
  have hp := h.p.kept hg (h.p.not_row (by decide) h.row)
  have hy := h.y.kept hg (h.y.not_row (by decide) h.row)
  have hw := h.w.kept hg (h.w.not_row (by decide) h.row)
  have hlt := h.y.lt
  have hm : Mv b W w1 := Mv.grown hg (by omega) (fun r e => by
    obtain ⟨h1, cur, h2⟩ := owns_cells h.row e
    exact ⟨h1, cur, _, h2⟩)
  refine ⟨hp, hm, hy.other (by omega) _, hp.set _, hw.other (by omega) _, ?_, ?_⟩
  · rw [List.length_append, ints_snoc]
    exact ho.kept (grownBy_setCell' w1 (b + 1) _) (.inr (hp.not_row (by decide) ho).symm)
  · exact (h.low.trans (hm.below.mono hb0)).setCell (p := ⟨b + 1, 0, none⟩) (by show _ ≤ b + 1; omega) _
/-- The path with its last number struck. -/
theorem St.pop {w0 : World} {b lp : Nat} {W : World} {path : List Int} {v : Value} {j : Int} (hb0 : w0.heap.size ≤ b) (h : St w0 b lp W (path ++ [j]) v) :
    ∃ g cap, v = .slice (some ⟨g, 0, none⟩) (path.length + 1) cap ∧ path.length + 1 ≤ cap ∧ cap ≤ maxLen ∧ Mv b W (W.setCell ⟨b + 1, 0, none⟩ (.slice (some ⟨g, 0, none⟩) path.length cap)) ∧
      St w0 b lp (W.setCell ⟨b + 1, 0, none⟩ (.slice (some ⟨g, 0, none⟩) path.length cap)) path (.slice (some ⟨g, 0, none⟩) path.length cap) := by
  obtain ⟨hy, hp, hw, hr, hl⟩ := h
  rw [List.length_append, ints_snoc] at hr
  obtain ⟨g, cap, rfl⟩ := ownsRow_succ hr
  have hc : path.length + 1 ≤ cap ∧ cap ≤ maxLen := by
    rcases hr.2 with ⟨hv, _⟩ | ⟨g', cap', cur, hv, hb, hh, hnc, hcm, hsz, hcur⟩
    · cases hv
    · simp only [Value.slice.injEq, Option.some.injEq, Addr.mk.injEq, and_true] at hv
      obtain ⟨rfl, _, rfl⟩ := hv
      exact ⟨hnc, hcm⟩
  refine ⟨g, cap, rfl, hc.1, hc.2, Mv.box hp (by omega) _, hy.other (by omega) _, hp.set _, hw.other (by omega) _, ?_, ?_⟩
  · exact (owns_less hr).kept (grownBy_setCell' W (b + 1) _) (.inr (hp.not_row (by decide) hr).symm)
  · exact hl.setCell (p := ⟨b + 1, 0, none⟩) (by show _ ≤ b + 1; omega) _

def WalkOk (w0 : World) (b lp N : Nat) (J Jx : List El → World → Prop) (k : Nat) : Prop :=
  ∀ (x : ByteArray × Int) (l : Fo) (a : Option Addr) (c : Nat) (path : List Int) (pre : List El) (v : Value) (W : World), nodesF l ≤ k → TmAt w0 x a c l → St w0 b lp W path v → J pre W → path.length ≤ pre.length → pre.length + nodesF l + 1 ≤ N →
    Calls Tryz.prog 95 #[.agg #[.string x.1, .int .i64 x.2, .slice a (lenF l) c], .pointer (some ⟨b, 0, none⟩), .pointer (some ⟨b + 1, 0, none⟩), .pointer (some ⟨b + 2, 0, none⟩)] W fun e W' =>
      (e = .returned (.bool true) ∧ ∃ ys v', J (pre ++ ys) W' ∧ ys.map El.info = placesT path x l ∧ St w0 b lp W' path v') ∨
      (e = .returned (.bool false) ∧ ∃ ys, ys.map El.info <+: placesT path x l ∧ Jx (pre ++ ys) W')

set_option maxRecDepth 100000 in
set_option maxHeartbeats 4000000 in
theorem walk_any (w0 : World) (b lp N M : Nat) (J Jx : List El → World → Prop) (hb0 : w0.heap.size ≤ b) (hM : (M + 1) * 8 ≤ 140737488355328)
    (hJ : ∀ s A B, J s A → Mv b A B → J s B) (hJM : ∀ s A, J s A → s.length ≤ M)
    (hY : ∀ m pre x W1, J pre W1 → Handed b x W1 → pre.length < N → YieldAt Fence.wide m Tryz.prog lp (El.encs x) W1 fun e W' =>
      (e = .returned (.bool true) ∧ J (pre ++ [x]) W' ∧ Leaves w0.heap.size x W1 W') ∨ (e = .returned (.bool false) ∧ Jx (pre ++ [x]) W')) :
    ∀ k, WalkOk w0 b lp N J Jx k := by
  intro k
  induction k using Nat.strongRecOn with
  | _ k ih =>
    intro x l a c path pre v W hk hT hS hj hpl hN
    refine (callsIn_wide (n := 4)).1 ?_
    have h1 : 1 ≤ 4 := by omega
    obtain ⟨i0, hi, hz0, hz1, hz2⟩ := info_parts Tryz.info3
    have hb1 : Below W.heap.size W (W.alloc (.cells #[.string x.1, .int .i64 x.2, .slice a (lenF l) c] 26)) := (Below.refl _ W).alloc (Nat.le_refl _) _
    have hS1 := hS.below hb1
    have hbW : b ≤ W.heap.size := Nat.le_of_lt hS.y.lt
    have hj1 := hJ _ _ _ hj (Mv.of_below hb1 hbW)
    have hF : Handed b ⟨path, x, l, v, a, c⟩ (W.alloc (.cells #[.string x.1, .int .i64 x.2, .slice a (lenF l) c] 26)) := ⟨hS1.row, hT.below hS1.low⟩
    obtain ⟨fn, tmps, assign, body, hy, hR⟩ := hY 3 pre ⟨path, x, l, v, a, c⟩ _ hj1 hF (by omega)
    dsimp only [El.encs] at hy
    have cy := hS1.y.cell
    have cp := hS1.p.cell
    refine callsIn_of_wp Tryz.func95 rfl trivial ?_ rfl
    simp only [Tryz.ntmps95, List.size_toArray, List.length_cons, List.length_nil, Nat.reduceAdd, Nat.reduceSub, Array.replicate_succ, Array.replicate_zero, List.push_toArray, List.append_toArray, List.nil_append, List.cons_append]
    gi_wp2
    refine hR.mono ?_
    rintro e W1 (⟨rfl, hJ1, hk1⟩ | ⟨rfl, hx1⟩)
    · have hS2 : St w0 b lp W1 path v := hS1.leaves (e := ⟨path, x, l, v, a, c⟩) hk1
      have hX := (TBox.new W x a (lenF l) c).leaves hk1
      have cx2 := hX.c2
      clear hS1 hj1 hF hR hy cy cp hX hS hj
      have hn : lenF l ≤ 9223372036854775807 := by have := hT.sizes.len; have := hT.sizes.cap; unfold maxLen at *; omega
      gi_wp2
      gi_loopw [6, 7, 16] (fun _ _ i wr => ∃ k : Nat, k ≤ lenF l ∧ i = .int .i64 k ∧ ∃ ys v', J (pre ++ ⟨path, x, l, v, a, c⟩ :: ys) wr ∧ ys.map El.info ++ placesF path k (dropF k l) = placesF path 0 l ∧ St w0 b lp wr path v') (fun _ _ i _ => lenF l - (intOf i).toNat)
      case atStart => exact ⟨0, Nat.zero_le _, rfl, [], v, hJ1, by rw [drop_zero]; rfl, hS2⟩
      case round =>
        obtain ⟨j, hjn, rfl, ys, v2, hj2, hpl2, hS3⟩ := hrel
        by_cases hlt : j < lenF l
        · obtain ⟨bb, oo, rfl, hks⟩ := hT.args.get (by omega)
          obtain ⟨y, a1, c1, l1, kd⟩ := hks.kid (k := j) hlt
          have kd' := kd.below hS3.low
          have p0 := kd'.name; have p1 := kd'.sym; have p2 := kd'.list
          obtain ⟨B1, O1, sp⟩ := kd.split
          have hlen2 := congrArg List.length hpl2
          rw [List.length_append, List.length_map, places_len, places_len, sp, nodesF] at hlen2
          have hM2 := hJM _ _ hj2
          simp only [List.length_append, List.length_cons] at hM2
          have hM3 : path.length + 1 ≤ M := by omega
          have hb4 : Below wr.heap.size wr (wr.alloc (.cells #[.string y.1, .int .i64 y.2, .slice a1 (lenF l1) c1] 26)) := (Below.refl _ wr).alloc (Nat.le_refl _) _
          have hb5 : Below wr.heap.size wr ((wr.alloc (.cells #[.string y.1, .int .i64 y.2, .slice a1 (lenF l1) c1] 26)).alloc (.cells #[.int .i64 (j : Int)] 3)) := hb4.alloc (by simp) _
          have hS4 := hS3.below hb4
          have hS5 := hS3.below hb5
          have hbr : b ≤ wr.heap.size := Nat.le_of_lt hS3.y.lt
          have hm5 := Mv.of_below hb5 hbr
          have hnews : ∀ (i : Nat) (u : Value), [Value.int .i64 (j : Int)][i]? = some u → ((wr.alloc (.cells #[.string y.1, .int .i64 y.2, .slice a1 (lenF l1) c1] 26)).alloc (.cells #[.int .i64 (j : Int)] 3)).cell? ((⟨wr.heap.size + 1, 0, none⟩ : Addr).add i) = some u := by
            have h := World.news_of_block (heap_alloc_new (wr.alloc (.cells #[.string y.1, .int .i64 y.2, .slice a1 (lenF l1) c1] 26)) (.cells #[.int .i64 (j : Int)] 3))
            rw [World.size_alloc] at h
            exact h
          have hone : ∀ u ∈ [Value.int .i64 (j : Int)], u.oneCell' = true := by intro u hu; simp at hu; subst hu; rfl
          have tY : TBox ((wr.alloc (.cells #[.string y.1, .int .i64 y.2, .slice a1 (lenF l1) c1] 26)).alloc (.cells #[.int .i64 (j : Int)] 3)) wr.heap.size y a1 (lenF l1) c1 :=
            (TBox.new wr y a1 (lenF l1) c1).mv (Mv.of_below (B := 0) ((Below.refl _ _).alloc (Nat.le_refl _) _) (Nat.zero_le _))
          have cp4 := hS4.p.cell
          have hmax : maxLen = 9223372036854775807 := rfl
          have SP : Hid (dropF j l = .node B1 O1 y l1 (dropF (j + 1) l)) := sp
          have KD : Hid (Kid w0 l bb oo j y a1 c1 l1) := kd
          have PL2 : Hid (ys.map El.info ++ placesF path j (dropF j l) = placesF path 0 l) := hpl2
          clear kd kd' sp hpl2 hks
          gi_wp2_with (gi_at_builtin; refine wpListIn_append_own _ rfl _ _ 130 rfl b 3 i0 (.int .i64 0) 1 8 Tryz.underlying130 hi hz0 hz1 hz2 rfl (by decide) v2 path.length (intsV path) rfl hS5.row ⟨wr.heap.size + 1, 0, none⟩ 1 1 [.int .i64 (j : Int)] rfl rfl hnews hone (by omega) (by omega) (by simp; omega) ?_; intro v' w1 hown' hgrow _; obtain ⟨g', cap', rfl⟩ := ownsRow_succ hown'; obtain ⟨hp1, hm6, hS6⟩ := hS5.push hb0 hgrow hown'; have hc1 := hp1.cell; have hf1 := hp1.frozen; have cw6 := hS6.w.cell; have hm7 := hm5.trans (hm6.trans (Mv.box hp1 (by omega) (.slice (some ⟨g', 0, none⟩) (path.length + 1) cap'))); have tY2 := (tY.mv hm6).mv (Mv.box hp1 (B := b) (by omega) (.slice (some ⟨g', 0, none⟩) (path.length + 1) cap')); have ty0 := tY2.c0; have ty1 := tY2.c1; have ty2 := tY2.c2)
          refine ⟨trivial, ?_⟩
          have hjj := hJ _ _ _ hj2 hm7
          refine (callsIn_wide.2 (ih (nodesF l1) (by have := KD.out.less; omega) y l1 a1 c1 (path ++ [(j : Int)]) _ _ _ (Nat.le_refl _) KD.out.at_ hS6 hjj (by simp; omega) (by simp; omega))).mono ?_
          clear hS3 hS4 hS5 hm5 tY cp4 hp1 hm6 hS6 hc1 hf1 cw6 hm7 tY2 ty0 ty1 ty2 hjj hj2 hb4 hb5 hnews hgrow hown'
          rintro e W3 (⟨rfl, zs, v3, hj3, hz3, hS7⟩ | ⟨rfl, zs, hz3, hx3⟩)
          · obtain ⟨g3, cap3, rfl, hcap3, hcm3, hm8, hS8⟩ := hS7.pop hb0
            have cp7 := hS7.p.cell
            have fp7 := hS7.p.frozen
            have hjj := hJ _ _ _ hj3 hm8
            clear hS7 hj3
            gi_wp2
            refine ⟨⟨j + 1, by omega, by go_num, ys ++ zs, _, by simpa using hjj, ?_, hS8⟩, by simp [intOf]; omega⟩
            rw [List.map_append, hz3, ← PL2.out, SP.out, placesF, placesT]
            simp
          · gi_wp2
            refine bodyPost_ret (results_tmp rfl _ _ _) rfl ?_
            refine .inr ⟨rfl, ⟨path, x, l, v, _, c⟩ :: ys ++ zs, ?_, by simpa using hx3⟩
            rw [List.map_append, List.map_cons]
            obtain ⟨t, ht⟩ := hz3
            refine ⟨t ++ placesF path (j + 1) (dropF (j + 1) l), ?_⟩
            rw [placesT, ← PL2.out, SP.out, placesF, ← placesT, ← ht]
            simp [El.info]
        · gi_wp2
          refine bodyPost_ret (results_tmp rfl _ _ _) rfl ?_
          refine .inl ⟨rfl, _, v2, hj2, ?_, hS3⟩
          have e1 : j = lenF l := by omega
          rw [e1, drop_end, placesF, List.append_nil] at hpl2
          simp [placesT, El.info, ← hpl2]
    · gi_wp2
      refine bodyPost_ret (results_tmp rfl _ _ _) rfl ?_
      exact .inr ⟨rfl, [⟨path, x, l, v, a, c⟩], by simp [placesT, El.info], hx1⟩

set_option maxRecDepth 100000 in
set_option maxHeartbeats 2000000 in
theorem places1_seq (w0 w : World) (M Bt : Nat) (x : ByteArray × Int) (l : Fo) (a : Option Addr) (c : Nat) (hT : TmAt w0 x a c l) (hB : TBox w Bt x a (lenF l) c) (hw : Below w0.heap.size w0 w) (hM : (M + 1) * 8 ≤ 140737488355328) :
    SeqM Tryz.prog 94 #[.pointer (some ⟨Bt, 0, none⟩)] El.encs Handed (fun _ => Leaves w0.heap.size) (fun ys => ys.map El.info = placesT [] x l) (fun ys => ys.map El.info <+: placesT [] x l) (nodesF l + 1) M w := by
  intro lp J Jx W hW hJ hJx hJM hY h0
  have hBW : TBox W Bt x a (lenF l) c := (hW.block Bt (Array.getElem?_eq_some_iff.1 hB).1).trans hB
  have hlow : w0.heap.size ≤ W.heap.size := Nat.le_trans hw.size hW.size
  have hwalk := walk_any w0 W.heap.size lp (nodesF l + 1) M J Jx hlow hM hJ hJM hY (nodesF l)
  obtain ⟨W3, hW3⟩ : ∃ W3, ((W.alloc (.cells #[.func (.yield lp) #[] #[]] 142)).alloc (.cells #[.slice none 0 0] 130)).alloc (.cells #[.func (.func 95) #[] #[.pointer (some ⟨W.heap.size, 0, none⟩), .pointer (some ⟨W.heap.size + 1, 0, none⟩), .pointer (some ⟨W.heap.size + 1 + 1, 0, none⟩)]] 93) = W3 := ⟨_, rfl⟩
  have hb3 : Below W.heap.size W W3 := by rw [← hW3]; exact (((Below.refl _ W).alloc (Nat.le_refl _) _).alloc (by simp) _).alloc (by simp; omega) _
  have hS : St w0 W.heap.size lp W3 [] (.slice none 0 0) := by
    refine ⟨?_, ?_, ?_, World.ownsRow_nil _ _ _ _, hw.trans (hW.mono hw.size) |>.trans (hb3.mono hlow)⟩
    · rw [← hW3]; exact ((Boxed.new W 142 _).alloc _).alloc _
    · rw [← hW3]
      have := (Boxed.new (W.alloc (.cells #[.func (.yield lp) #[] #[]] 142)) 130 (.slice none 0 0)).alloc (.cells #[.func (.func 95) #[] #[.pointer (some ⟨W.heap.size, 0, none⟩), .pointer (some ⟨W.heap.size + 1, 0, none⟩), .pointer (some ⟨W.heap.size + 1 + 1, 0, none⟩)]] 93)
      rw [World.size_alloc] at this
      exact this
    · rw [← hW3]
      have := Boxed.new ((W.alloc (.cells #[.func (.yield lp) #[] #[]] 142)).alloc (.cells #[.slice none 0 0] 130)) 93 (.func (.func 95) #[] #[.pointer (some ⟨W.heap.size, 0, none⟩), .pointer (some ⟨W.heap.size + 1, 0, none⟩), .pointer (some ⟨W.heap.size + 1 + 1, 0, none⟩)])
      rw [World.size_alloc, World.size_alloc] at this
      exact this
  have hB3 : TBox W3 Bt x a (lenF l) c := (hb3.block Bt (Array.getElem?_eq_some_iff.1 hBW).1).trans hBW
  have t0 := hB3.c0; have t1 := hB3.c1; have t2 := hB3.c2
  have hj3 := hJ _ _ _ h0 (Mv.of_below hb3 (Nat.le_refl _))
  have hgo := hwalk x l a c [] [] (.slice none 0 0) W3 (Nat.le_refl _) hT hS hj3 (Nat.le_refl _) (by simp)
  clear hwalk hY hBW hB3 hS hj3 hJ hJx hJM h0
  subst hW3
  clear hb3
  go_enter Tryz.func94, Tryz.ntmps94
  go_wp2_with fail
  refine hgo.mono ?_
  rintro e W4 (⟨rfl, ys, v', hj4, hy4, _⟩ | ⟨rfl, ys, hy4, hx4⟩)
  · go_wp2
    go_end0
    exact ⟨⟨_, rfl⟩, .inl ⟨ys, hy4, by simpa using hj4⟩⟩
  · go_wp2
    go_end0
    exact ⟨⟨_, rfl⟩, .inr ⟨ys, hy4, by simpa using hx4⟩⟩

set_option maxHeartbeats 1000000 in
theorem places_any (x : ByteArray × Int) (a : Option Addr) (n c : Nat) (w : World) : Calls Tryz.prog 76 #[.agg #[.string x.1, .int .i64 x.2, .slice a n c]] w fun e w' =>
    e = .returned (.func (.func 94) #[] #[.pointer (some ⟨w.heap.size, 0, none⟩)]) ∧ w' = w.alloc (.cells #[.string x.1, .int .i64 x.2, .slice a n c] 26) := by
  go_enter Tryz.func76, Tryz.ntmps76
  go_wp2
  go_ret
  exact ⟨rfl, rfl⟩
end Go.Proofs.YtfnfbljijkjkjaaGreat
/- What Size and Has of package terms answer of any term. -/
namespace Go.Proofs.YtfnfbljijkjkjaaGreat
open Go.RowKit Go.Shelf Go.Deep

attribute [local go_sem] Oper.semAt_some

/-- The law at a loop that stands in no round. -/
theorem range_own {α : Type} {P : Program} {n : Nat} {g : Operand} {ps : Array Tmp} {assign body : Code} {Q : Exit → Act → World → Prop} {a : Act} {w : World}
    {gf : Nat} {lb : Array Value} (hg : a.eval g = .func (.func gf) #[] lb) (eg : ∀ args w, (callFunc gf args).run P w = .ok (.enter gf args) w)
    {encs : α → Array Value} {Fact : Nat → α → World → Prop} {Kp : Nat → α → World → World → Prop} {S Sp : List α → Prop} {N M : Nat} {w0 : World} (hseq : SeqM P gf lb encs Fact Kp S Sp N M w0) (hb0 : Below w0.heap.size w0 w)
    (hps : ∀ x, (encs x).size = ps.size)
    (hF : ∀ x A B, Fact (w.heap.size + 2) x A → Cl w.heap.size A B → Fact (w.heap.size + 2) x B) (hKc : ∀ x A B, Cl w.heap.size A B → Kp (w.heap.size + 2) x A B) (hKt : ∀ x A B C, Kp (w.heap.size + 2) x A B → Kp (w.heap.size + 2) x B C → Kp (w.heap.size + 2) x A C)
    (I : List α → World → Prop) (Ix : Code → List α → World → Prop) (hI : ∀ s A B, I s A → Mv w.heap.size A B → I s B) (hIx : ∀ c s A B, Ix c s A → Mv w.heap.size A B → Ix c s B) (hIM : ∀ s A, I s A → s.length ≤ M) (h0 : I [] w)
    (Ax : α → Act → World → Prop) (hAx : ∀ x a' A B, Ax x a' A → Cl w.heap.size A B → Ax x a' B)
    (hassign : ∀ (pre : List α) (x : α) (W : World) (K : Act → World → Prop), I pre W → Fact (w.heap.size + 2) x W → (∀ a' W', Below W.heap.size W W' → Ax x a' W' → K a' W') →
      ∀ m, assign.wpIn (Fence.wide.inRound (w.heap.size + 1)) m P (Exit.then K (fun _ _ _ => False)) { tmps := (ps.zip (encs x)).foldl (fun t (p, v) => t.setIfInBounds p v) a.tmps, defers := [] } W)
    (hbody : ∀ (pre : List α) (x : α) (a' : Act) (W : World), (∃ r, W.heap[w.heap.size + 1]? = some (.loop r)) → I pre W → Fact (w.heap.size + 2) x W → Ax x a' W → pre.length < N →
      ∀ m, body.wpIn (Fence.wide.inRound (w.heap.size + 1)) m P (roundLeaves w.heap.size (Kp (w.heap.size + 2)) I Ix pre x W) a' W)
    (hdone : ∀ (xs : List α) (W : World), S xs → I xs W → W.heap[w.heap.size]? = some (.deferred (some [])) → Q .normal { a with defers := { target := .collected w.heap.size, args := #[] } :: a.defers } W)
    (hstop : ∀ (c : Code) (pre : List α) (W : World), Sp pre → Ix c pre W → W.heap[w.heap.size]? = some (.deferred (some [])) → c.wpIn Fence.wide n P Q { a with defers := { target := .collected w.heap.size, args := #[] } :: a.defers } W) :
    (Code.rangeFunc g ps assign body).wpIn Fence.wide n P Q a w :=
  range_core (ro := none) (l := w.heap.size + 1) (D := w.heap.size) (b := w.heap.size + 2) (dd := w.heap.size) (mark := [{ target := .collected w.heap.size, args := #[] }]) (o := .deferred (some [])) (B0 := w.heap.size)
    (fun fn => ⟨_, run_enterLoop_outer fn _ _ _ _, by simp, ((Below.refl _ w).alloc (Nat.le_refl _) _).alloc (by simp) _,
      by have := World.alloc_heap_new (w.alloc (.deferred (some []))) (.loop { state := .ready, pending := none, fn, tmps := a.tmps, params := ps, assign, body, defers := w.heap.size }); rwa [World.size_alloc] at this,
      (Below.heap_alloc _ _ _ (by simp)).trans (World.alloc_heap_new w _)⟩)
    (by omega) rfl (Nat.le_refl _) (by omega) (Nat.le_refl _) hg eg hseq hb0 hps hF hKc hKt I Ix hI hIx hIM h0 Ax hAx hassign hbody hdone hstop

theorem TBox.cl {B0 : Nat} {W W' : World} {B : Nat} {x : ByteArray × Int} {a : Option Addr} {n c : Nat} (h : TBox W B x a n c) (hm : Cl B0 W W') : TBox W' B x a n c := hm.cells _ _ _ _ h
theorem cl_cell {B0 : Nat} {W W' : World} (h : Cl B0 W W') (p : Addr) (v : Value) (hp : W.cell? p = some v) : W'.cell? p = some v := by
  obtain ⟨cs, t, fr, hb⟩ : ∃ cs t fr, W.heap[p.block]? = some (Obj.cells cs t fr) := by
    cases hc : W.heap[p.block]? with
    | none => simp [World.cell?, hc] at hp
    | some o =>
      cases o with
      | cells cs t fr => exact ⟨cs, t, fr, rfl⟩
      | _ => simp [World.cell?, hc] at hp
  have := h.cells _ _ _ _ hb
  rw [World.cell?_of_block (this.trans hb.symm)]
  exact hp
theorem Handed.cl {b B0 : Nat} {e : El} {W W' : World} (h : Handed b e W) (hc : Cl B0 W W') : Handed b e W' :=
  ⟨owns_block h.row (fun g hg => by obtain ⟨_, cur, hk⟩ := owns_cells h.row hg; rw [hk]; exact hc.cells _ _ _ _ hk), h.at_.kept (cl_cell hc)⟩
theorem Leaves.of_cl {n0 B0 : Nat} {e : El} {W W' : World} (hc : Cl B0 W W') (hn : n0 ≤ B0) : Leaves n0 e W W' := ⟨hc.below.mono hn, fun _ _ _ _ h _ => hc.cells _ _ _ _ h⟩
theorem Leaves.trans {n0 : Nat} {e : El} {X Y Z : World} (h : Leaves n0 e X Y) (k : Leaves n0 e Y Z) : Leaves n0 e X Z := ⟨h.below.trans k.below, fun i cs t fr hi ht => k.kept i cs t fr (h.kept i cs t fr hi ht) ht⟩
theorem boxed_mv {B0 : Nat} {W W' : World} {B : Nat} {t : TypeId} {v : Value} (h : Boxed W B t v) (hm : Mv B0 W W') (hB : B < B0) : Boxed W' B t v := (hm.below.block B hB).trans h
theorem below_mv {n0 B0 : Nat} {w W W' : World} (h : Below n0 w W) (hm : Mv B0 W W') (hn : n0 ≤ B0) : Below n0 w W' := h.trans (hm.below.mono hn)

/-- A store into a box of the caller's. -/
theorem Leaves.set {n0 b B : Nat} {e : El} {W : World} {t : TypeId} {v : Value} (h : Handed b e W) (hB : Boxed W B t v) (hn : n0 ≤ B) (hlt : B < b) (h1 : t ≠ 26) (h2 : t ≠ 130) (h3 : t ≠ 142) (h4 : t ≠ 93) (u : Value) : Leaves n0 e W (W.setCell ⟨B, 0, none⟩ u) :=
  ⟨(Below.refl _ _).setCell (p := ⟨B, 0, none⟩) hn u, fun k cs t' fr hk ht => by
    refine (Below.heap_setCell W ⟨B, 0, none⟩ u k (fun e' => ?_)).trans hk
    have e'' : k = B := e'
    subst e''
    rw [show W.heap[k]? = _ from hB] at hk
    cases hk
    rcases ht with rfl | rfl | rfl | rfl | hg
    · exact h1 rfl
    · exact h2 rfl
    · exact h3 rfl
    · exact h4 rfl
    · have := (owns_cells h.row hg.symm).1
      omega⟩

end Go.Proofs.YtfnfbljijkjkjaaGreat
/- What Has of package terms answers of any term and name. -/
namespace Go.Proofs.YtfnfbljijkjkjaaGreat
open Go.RowKit Go.Shelf Go.Deep

attribute [local go_sem] Oper.semAt_some

theorem results_cell1 {fn : Func} {p : Tmp} {ty : TypeId} (h : fn.results = #[.cell p ty]) (tmps : Array Value) (P : Program) (w : World) :
    (results fn tmps).run P w = ((asAddr (tmps.getD p undef)).run P w).andThen fun a w₁ => (loadVar ty a).run P w₁ := by
  simp only [results, h]
  simp [Sem.run_bind, Result.andThen]
theorem boxed_putObj {W : World} {B D : Nat} {t : TypeId} {v : Value} (h : Boxed W B t v) {o : Obj} (hD : W.heap[D]? = some o) (ho : o.isCells = false) (o' : Obj) : Boxed (W.putObj D o') B t v :=
  (Cl.putObj (B := 0) (Nat.zero_le _) hD ho o').cells _ _ _ _ h

theorem results_bool {fn : Func} {p : Tmp} (h : fn.results = #[.cell p 4]) {tmps : Array Value} {w : World} {B : Nat} {v : Value} (hp : tmps.getD p undef = .pointer (some ⟨B, 0, none⟩)) (hb : Boxed w B 4 v) : (results fn tmps).run Tryz.prog w = .ok v w := by
  have hc := hb.cell
  rw [results_cell1 h, hp]
  simp [go_sem, hc]

/-- Does a variable of this name stand at one of these places? -/
def hasP (nm : ByteArray) (ps : List Pl) : Bool := ps.any fun p => p.2.1.1.toList == nm.toList
def hasT (nm : ByteArray) (x : ByteArray × Int) (l : Fo) : Bool := !noName nm && hasP nm (placesT [] x l)

set_option maxRecDepth 100000 in
set_option maxHeartbeats 2000000 in
theorem has_any (x : ByteArray × Int) (l : Fo) (a : Option Addr) (c : Nat) (nm : ByteArray) (w : World) (hT : TmAt w x a c l) (hM : (nodesF l + 2) * 8 ≤ 140737488355328) :
    Calls Tryz.prog 69 #[.agg #[.string x.1, .int .i64 x.2, .slice a (lenF l) c], .string nm] w fun e w' => e = .returned (.bool (hasT nm x l)) ∧ Below w.heap.size w w' := by
  cases hnm : nm.toList.isEmpty
  · have hval : hasT nm x l = hasP nm (placesT [] x l) := by simp [hasT, noName, hnm]
    rw [hval]
    refine (callsIn_wide (n := 6)).1 ?_
    have h1 : 1 ≤ 6 := by omega
    refine callsIn_of_wp_marks Tryz.func69 rfl trivial ?_ rfl
    simp only [Tryz.ntmps69, List.size_toArray, List.length_cons, List.length_nil, Nat.reduceAdd, Nat.reduceSub, Array.replicate_succ, Array.replicate_zero, List.push_toArray, List.append_toArray, List.nil_append, List.cons_append]
    gi_wp2_with fail
    refine ⟨trivial, ?_⟩
    refine (callsIn_wide.2 (places_any x a (lenF l) c _)).mono ?_
    rintro e w' ⟨rfl, rfl⟩
    gi_wp2
    have bN := ((Boxed.new (w.alloc (.cells #[.string x.1, .int .i64 x.2, .slice a (lenF l) c] 26)) 9 (.string nm)).alloc (.cells #[.bool false] 4)).alloc (.cells #[.string x.1, .int .i64 x.2, .slice a (lenF l) c] 26)
    have bR := (Boxed.new ((w.alloc (.cells #[.string x.1, .int .i64 x.2, .slice a (lenF l) c] 26)).alloc (.cells #[.string nm] 9)) 4 (.bool false)).alloc (.cells #[.string x.1, .int .i64 x.2, .slice a (lenF l) c] 26)
    have bT := TBox.new (((w.alloc (.cells #[.string x.1, .int .i64 x.2, .slice a (lenF l) c] 26)).alloc (.cells #[.string nm] 9)).alloc (.cells #[.bool false] 4)) x a (lenF l) c
    simp only [World.size_alloc] at bN bR bT
    have hB0 : Below w.heap.size w ((((w.alloc (.cells #[.string x.1, .int .i64 x.2, .slice a (lenF l) c] 26)).alloc (.cells #[.string nm] 9)).alloc (.cells #[.bool false] 4)).alloc (.cells #[.string x.1, .int .i64 x.2, .slice a (lenF l) c] 26)) := ((((Below.refl _ w).alloc (Nat.le_refl _) _).alloc (by simp) _).alloc (by simp; omega) _).alloc (by simp; omega) _
    have hsz : ((((w.alloc (.cells #[.string x.1, .int .i64 x.2, .slice a (lenF l) c] 26)).alloc (.cells #[.string nm] 9)).alloc (.cells #[.bool false] 4)).alloc (.cells #[.string x.1, .int .i64 x.2, .slice a (lenF l) c] 26)).heap.size = w.heap.size + 4 := by simp
    obtain ⟨W0, hW0⟩ : ∃ W0, (((w.alloc (.cells #[.string x.1, .int .i64 x.2, .slice a (lenF l) c] 26)).alloc (.cells #[.string nm] 9)).alloc (.cells #[.bool false] 4)).alloc (.cells #[.string x.1, .int .i64 x.2, .slice a (lenF l) c] 26) = W0 := ⟨_, rfl⟩
    rw [hW0] at bN bR bT hB0 hsz ⊢
    clear hW0
    refine range_own (gf := 94) (lb := #[.pointer (some ⟨w.heap.size + 1 + 1 + 1, 0, none⟩)]) rfl (enters_of Tryz.func94 (by kernel_rfl) rfl)
      (places1_seq w W0 (nodesF l + 1) (w.heap.size + 1 + 1 + 1) x l a c hT bT hB0 (by omega)) (Below.refl _ _) (fun _ => rfl)
      (fun _ _ _ h hc => h.cl hc) (fun _ _ _ hc => Leaves.of_cl hc (by omega)) (fun _ _ _ _ h k => h.trans k)
      (fun pre W => ((Boxed W (w.heap.size + 1) 9 (.string nm) ∧ Boxed W (w.heap.size + 1 + 1) 4 (.bool false)) ∧ Below w.heap.size w W) ∧ pre.length ≤ nodesF l + 1 ∧ hasP nm (pre.map El.info) = false)
      (fun c pre W => c = .ret ∧ (Boxed W (w.heap.size + 1 + 1) 4 (.bool true) ∧ Below w.heap.size w W) ∧ hasP nm (pre.map El.info) = true)
      (fun _ _ _ h hm => ⟨⟨⟨boxed_mv h.1.1.1 hm (by omega), boxed_mv h.1.1.2 hm (by omega)⟩, below_mv h.1.2 hm (by omega)⟩, h.2⟩)
      (fun _ _ _ _ h hm => ⟨h.1, ⟨boxed_mv h.2.1.1 hm (by omega), below_mv h.2.1.2 hm (by omega)⟩, h.2.2⟩) (fun _ _ h => h.2.1) ⟨⟨⟨bN, bR⟩, hB0⟩, by simp, rfl⟩
      (fun e a' W => ∃ Bx, TBox W Bx e.x e.a (lenF e.l) e.c ∧ a' = { tmps := #[.agg #[.string x.1, .int .i64 x.2, .slice a (lenF l) c], .string nm, .pointer (some ⟨w.heap.size, 0, none⟩), .pointer (some ⟨w.heap.size + 1, 0, none⟩), .pointer (some ⟨w.heap.size + 1 + 1, 0, none⟩), undef, .pointer (some ⟨Bx, 0, none⟩), .string nm, .bool false, .agg #[.string x.1, .int .i64 x.2, .slice a (lenF l) c], .func (.func 94) #[] #[.pointer (some ⟨w.heap.size + 1 + 1 + 1, 0, none⟩)], e.pv, .agg #[.string e.x.1, .int .i64 e.x.2, .slice e.a (lenF e.l) e.c], undef, undef, undef, undef], defers := [] })
      (fun _ _ _ _ ⟨Bx, h, k⟩ hc => ⟨Bx, h.cl hc, k⟩) ?assign ?body ?done ?stop
    case assign =>
      rintro pre e W K _ _ hK m
      simp only [El.encs]
      gi_wp2
      exact hK _ _ ((Below.refl _ _).alloc (Nat.le_refl _) _) ⟨_, TBox.new W e.x e.a (lenF e.l) e.c, by simp⟩
    case body =>
      rintro pre e a' W _ ⟨⟨⟨bn, br⟩, hB⟩, hl, hno⟩ hF ⟨Bx, bx, rfl⟩ hlt m
      have c0 := bx.c0
      have cn := bn.cell
      have cr := br.cell
      have fr := br.frozen
      cases ht : (e.x.1.toList == nm.toList)
      · gi_wp2
        refine ⟨KeepsFrom.refl _ _, Leaves.of_cl (Cl.of_below (Below.refl _ _) (Nat.le_refl _)) (by have := hB.size; omega), ⟨⟨bn, br⟩, hB⟩, by simp; omega, ?_⟩
        simp only [hasP, List.map_append, List.any_append] at hno ⊢
        simp [hno, El.info, ht]
      · gi_wp2
        refine ⟨(KeepsOthers.setCell _ _ _).from _, rfl, ⟨br.set _, hB.setCell (p := ⟨w.heap.size + 1 + 1, 0, none⟩) (by show _ ≤ w.heap.size + 1 + 1; omega) _⟩, ?_⟩
        simp only [hasP, List.map_append, List.any_append]
        simp [El.info, ht]
    case done =>
      rintro ys W hS ⟨⟨⟨bn, br⟩, hB⟩, _, hno⟩ hK
      have cr := br.cell
      have fr := br.frozen
      rw [hS] at hno
      gi_wp2
      have hK2 := (KeepsOthers.setCell W ⟨w.heap.size + 1 + 1, 0, none⟩ (.bool false)).same _ _ hK rfl
      refine ⟨by simp, .inl ⟨_, _, rfl, run_takeDeferred hK2, ?_⟩⟩
      exact ⟨_, results_bool rfl rfl (boxed_putObj (br.set _) hK2 rfl _), by rw [hno], (hB.setCell (p := ⟨w.heap.size + 1 + 1, 0, none⟩) (by show _ ≤ w.heap.size + 1 + 1; omega) _).trans (below_putObj _ (by omega) _)⟩
    case stop =>
      rintro c pre W ⟨t, ht⟩ ⟨rfl, ⟨br, hB⟩, hyes⟩ hK
      gi_wp2
      refine ⟨by simp, .inl ⟨_, _, rfl, run_takeDeferred hK, ?_⟩⟩
      refine ⟨_, results_bool rfl rfl (boxed_putObj br hK rfl _), ?_, hB.trans (below_putObj _ (by omega) _)⟩
      rw [← ht]
      unfold hasP at hyes ⊢
      rw [List.any_append, hyes, Bool.true_or]
  · have hval : hasT nm x l = false := by simp [hasT, noName, hnm]
    rw [hval]
    go_enter Tryz.func69, Tryz.ntmps69
    go_wp2
    refine bodyPost_ret (results_bool rfl rfl (by have := Boxed.new ((w.alloc (.cells #[.string x.1, .int .i64 x.2, .slice a (lenF l) c] 26)).alloc (.cells #[.string nm] 9)) 4 (.bool false); simpa only [World.size_alloc] using this)) rfl ?_
    exact ⟨rfl, ((((Below.refl _ w).alloc (Nat.le_refl _) _).alloc (by simp) _).alloc (by simp; omega) _)⟩
end Go.Proofs.YtfnfbljijkjkjaaGreat
/- What the document's Size and Has answer of any term. -/
namespace Go.Proofs.YtfnfbljijkjkjaaGreat
open Go.RowKit Go.Deep

def RSizeOk (k : Nat) : Prop := ∀ (x : ByteArray × Int) (l : Fo) (a : Option Addr) (c : Nat) (w : World), nodesF l ≤ k → TmAt w x a c l → nodesF l + 1 ≤ 4611686018427387904 →
  Calls Tryz.prog 46 #[.agg #[.string x.1, .int .i64 x.2, .slice a (lenF l) c]] w fun e w' => e = .returned (.int .i64 ((nodesF l + 1 : Nat) : Int)) ∧ Below w.heap.size w w'

set_option maxRecDepth 100000 in
set_option maxHeartbeats 1000000 in
theorem rsize_all : ∀ k, RSizeOk k := by
  intro k
  induction k using Nat.strongRecOn with
  | _ k ih =>
    intro x l a c w hk hT hbig
    have HT : Hid (TmAt w x a c l) := hT
    have IH : Hid (∀ j, j < k → RSizeOk j) := ih
    have O0 : Hid (One w x a (lenF l) c (w.alloc (.cells #[.string x.1, .int .i64 x.2, .slice a (lenF l) c] 26))) := One.new _ _ _ _ _
    have hn := len_nodes l
    clear hT ih
    go_enter Tryz.func46, Tryz.ntmps46
    go_wp2
    go_loopw [3, 4] (fun q i wr => ∃ (j m : Nat), j ≤ lenF l ∧ q = .int .i64 (m : Int) ∧ i = .int .i64 j ∧ One w x a (lenF l) c wr ∧ m + nodesF (dropF j l) = nodesF l + 1) (fun _ i _ => lenF l - (intOf i).toNat)
    case atStart => exact ⟨0, 1, Nat.zero_le _, rfl, rfl, O0.out, by rw [drop_zero]; omega⟩
    case round =>
      obtain ⟨j, m, hj, rfl, rfl, hO, hm⟩ := hrel
      have t2 := hO.t.c2
      by_cases hlt : j < lenF l
      · obtain ⟨b1, o1, rfl, hk1⟩ := HT.out.args.get (by omega)
        obtain ⟨z, a1, c1, l1, kd⟩ := hk1.kid (k := j) hlt
        have kd' := kd.below hO.low
        obtain ⟨B1, O1, s1⟩ := kd.split
        rw [s1, nodesF] at hm
        have p0 := kd'.name; have p1 := kd'.sym; have p2 := kd'.list
        have hC := IH.out (nodesF l1) (by have := kd.less; omega) z l1 a1 c1 wr (Nat.le_refl _) kd'.at_ (by have := kd.less; omega)
        have HO : Hid (One w x (some ⟨b1, o1, none⟩) (lenF l) c wr) := hO
        clear kd kd' hk1 s1 hO
        go_wp2_with fail
        refine hC.mono ?_
        rintro e w2 ⟨rfl, hb⟩
        have HO2 : Hid (One w x (some ⟨b1, o1, none⟩) (lenF l) c w2) := HO.out.below hb
        clear hC hb p0 p1 p2 t2
        go_wp2
        go_roundw
        case rel => exact ⟨j + 1, m + (nodesF l1 + 1), by omega, by go_num, by go_num, HO2.out, by omega⟩
        case measure => simp [intOf]; omega
      · have e1 : j = lenF l := by omega
        rw [e1, drop_end, nodesF] at hm
        have hm' : m = nodesF l + 1 := by omega
        subst hm'
        go_wp2
        go_ret
        exact ⟨rfl, hO.low⟩

/-! ### Has -/
def hasN (nm : ByteArray) (x : ByteArray × Int) : Bool := !noName x.1 && x.1.toList == nm.toList
def hasF (nm : ByteArray) : Fo → Bool
  | .nil => false
  | .node _ _ x l r => (hasN nm x || hasF nm l) || hasF nm r
def hasR (nm : ByteArray) (x : ByteArray × Int) (l : Fo) : Bool := hasN nm x || hasF nm l
theorem hasN_is (nm : ByteArray) (x : ByteArray × Int) : hasN nm x = (!noName nm && x.1.toList == nm.toList) := by
  unfold hasN noName
  cases h : (x.1.toList == nm.toList)
  · simp
  · have e : x.1.toList = nm.toList := by simpa using h
    rw [e]
theorem hasF_is (nm : ByteArray) : ∀ (F : Fo) (path : List Int) (i : Nat), hasF nm F = (!noName nm && hasP nm (placesF path i F))
  | .nil, _, _ => by simp [hasF, placesF, hasP]
  | .node _ _ x l r, path, i => by
    have h1 := hasF_is nm l (path ++ [(i : Int)]) 0
    have h2 := hasF_is nm r path (i + 1)
    unfold hasP at h1 h2
    rw [hasF, hasN_is, h1, h2, placesF, hasP, List.any_append, List.any_cons]
    cases noName nm <;> simp [Bool.or_assoc]
theorem hasR_is (nm : ByteArray) (x : ByteArray × Int) (l : Fo) : hasR nm x l = hasT nm x l := by
  have h1 := hasF_is nm l [] 0
  unfold hasP at h1
  rw [hasR, hasT, hasN_is, h1, placesT, hasP, List.any_cons]
  cases noName nm <;> simp

def RHasOk (k : Nat) : Prop := ∀ (nm : ByteArray) (x : ByteArray × Int) (l : Fo) (a : Option Addr) (c : Nat) (w : World), nodesF l ≤ k → TmAt w x a c l →
  Calls Tryz.prog 16 #[.agg #[.string x.1, .int .i64 x.2, .slice a (lenF l) c], .string nm] w fun e w' => e = .returned (.bool (hasR nm x l)) ∧ Below w.heap.size w w'

set_option maxRecDepth 100000 in
set_option maxHeartbeats 1000000 in
theorem rhas_all : ∀ k, RHasOk k := by
  intro k
  induction k using Nat.strongRecOn with
  | _ k ih =>
    intro nm x l a c w hk hT
    have HT : Hid (TmAt w x a c l) := hT
    have IH : Hid (∀ j, j < k → RHasOk j) := ih
    have O0 : Hid (One w x a (lenF l) c (w.alloc (.cells #[.string x.1, .int .i64 x.2, .slice a (lenF l) c] 26))) := One.new _ _ _ _ _
    have hn : lenF l ≤ 9223372036854775807 := by have := hT.sizes.len; have := hT.sizes.cap; unfold maxLen at *; omega
    have hdef : hasR nm x l = ((!x.1.toList.isEmpty && x.1.toList == nm.toList) || hasF nm l) := rfl
    clear hT ih
    cases h1 : (!x.1.toList.isEmpty && x.1.toList == nm.toList)
    · rw [h1, Bool.false_or] at hdef
      have HD : Hid (hasR nm x l = hasF nm l) := hdef
      clear hdef
      have h2 : x.1.toList.isEmpty = false → (x.1.toList == nm.toList) = false := fun h => by rw [h] at h1; simpa using h1
      clear h1
      cases hx : x.1.toList.isEmpty
      all_goals
        first | (have h3 := h2 hx) | skip
        clear h2
        go_enter Tryz.func16, Tryz.ntmps16
        go_wp2
        go_loopw [5, 6] (fun i _ wr => ∃ j : Nat, j ≤ lenF l ∧ i = .int .i64 j ∧ One w x a (lenF l) c wr ∧ hasF nm l = hasF nm (dropF j l)) (fun i _ _ => lenF l - (intOf i).toNat)
        case atStart => exact ⟨0, Nat.zero_le _, rfl, O0.out, by rw [drop_zero]⟩
        case round =>
          obtain ⟨j, hj, rfl, hO, hf⟩ := hrel
          have t2 := hO.t.c2
          by_cases hlt : j < lenF l
          · obtain ⟨b1, o1, rfl, hk1⟩ := HT.out.args.get (by omega)
            obtain ⟨z, a1, c1, l1, kd⟩ := hk1.kid (k := j) hlt
            have kd' := kd.below hO.low
            obtain ⟨B1, O1, s1⟩ := kd.split
            rw [s1, hasF] at hf
            have HF : Hid (hasF nm l = (hasR nm z l1 || hasF nm (dropF (j + 1) l))) := hf
            have p0 := kd'.name; have p1 := kd'.sym; have p2 := kd'.list
            have hC := IH.out (nodesF l1) (by have := kd.less; omega) nm z l1 a1 c1 wr (Nat.le_refl _) kd'.at_
            have HO : Hid (One w x (some ⟨b1, o1, none⟩) (lenF l) c wr) := hO
            clear kd kd' hk1 s1 hO hf
            go_wp2_with fail
            refine hC.mono ?_
            rintro e w2 ⟨rfl, hb⟩
            have HO2 : Hid (One w x (some ⟨b1, o1, none⟩) (lenF l) c w2) := HO.out.below hb
            clear hC hb p0 p1 p2 t2
            cases hr : hasR nm z l1
            · rw [hr, Bool.false_or] at HF
              go_wp2
              go_roundw
              case rel => exact ⟨j + 1, by omega, by go_num, HO2.out, HF.out⟩
              case measure => simp [intOf]; omega
            · rw [hr, Bool.true_or] at HF
              go_wp2
              go_ret
              exact ⟨by rw [HD.out, HF.out]; rfl, HO2.out.low⟩
          · have e1 : j = lenF l := by omega
            rw [e1, drop_end, hasF] at hf
            have HF : Hid (hasF nm l = false) := hf
            clear hf
            go_wp2
            go_ret
            exact ⟨by rw [HD.out, HF.out]; rfl, hO.low⟩
    · rw [h1, Bool.true_or] at hdef
      have HD : Hid (hasR nm x l = true) := hdef
      clear hdef
      have h2 : x.1.toList.isEmpty = false := by simp at h1; simp [h1.1]
      have h3 : (x.1.toList == nm.toList) = true := by simp at h1; simp [h1.2]
      go_enter Tryz.func16, Tryz.ntmps16
      go_wp2
      go_ret
      exact ⟨by rw [HD.out]; rfl, O0.out.low⟩
end Go.Proofs.YtfnfbljijkjkjaaGreat
/- What the library says of comparing texts and numbers, laid at this program. -/
namespace Go.Proofs
open Go.Shelf
def Tryz.lays213_ren : Go.Shelf.Ren := ⟨fun | 213 => 75 | 265 => 93 | n => n, fun | 9 => 9 | 3 => 3 | n => n, fun | n => n⟩
theorem Tryz.lays213 : Go.Proofs.Lays.n213 Tryz.prog Tryz.lays213_ren := {
  mixed := by kernel_rfl
  f213 := Tryz.func75.trans (congrArg some (by kernel_rfl))
  f265 := Tryz.func93.trans (congrArg some (by kernel_rfl))
  t3 := Tryz.underlying3
  a3 := Tryz.isAgg3
  z3 := Tryz.sizeOf3
  v3 := Tryz.zeroValue3
  t9 := Tryz.underlying9
  a9 := Tryz.isAgg9
  z9 := Tryz.sizeOf9
  v9 := Tryz.zeroValue9 }
open Go.RowKit in
theorem Tryz.bytealg_CompareString (a b : ByteArray) (w : World) :
    Calls Tryz.prog 75 #[.string a, .string b] w fun e w' => e = .returned (.int .i64 (Lib.compareBytes a.data.toList b.data.toList)) ∧ w' = w := Any.bytealg_CompareString Tryz.lays213 a b w
def Tryz.lays106_ren : Go.Shelf.Ren := ⟨fun | 106 => 53 | 213 => 75 | 265 => 93 | n => n, fun | 9 => 9 | 3 => 3 | n => n, fun | n => n⟩
theorem Tryz.lays106 : Go.Proofs.Lays.n106 Tryz.prog Tryz.lays106_ren := {
  mixed := by kernel_rfl
  f106 := Tryz.func53.trans (congrArg some (by kernel_rfl))
  f213 := Tryz.func75.trans (congrArg some (by kernel_rfl))
  f265 := Tryz.func93.trans (congrArg some (by kernel_rfl))
  t3 := Tryz.underlying3
  a3 := Tryz.isAgg3
  z3 := Tryz.sizeOf3
  v3 := Tryz.zeroValue3
  t9 := Tryz.underlying9
  a9 := Tryz.isAgg9
  z9 := Tryz.sizeOf9
  v9 := Tryz.zeroValue9 }
open Go.RowKit in
theorem Tryz.strings_Compare (a b : ByteArray) (w : World) :
    Calls Tryz.prog 53 #[.string a, .string b] w fun e w' => e = .returned (.int .i64 (Lib.compareBytes a.data.toList b.data.toList)) ∧ w' = w := Any.strings_Compare Tryz.lays106 a b w
def Tryz.lays215_ren : Go.Shelf.Ren := ⟨fun | 215 => 81 | n => n, fun | 3 => 3 | 4 => 4 | n => n, fun | n => n⟩
theorem Tryz.lays215 : Go.Proofs.Lays.n215 Tryz.prog Tryz.lays215_ren := {
  mixed := by kernel_rfl
  f215 := Tryz.func81.trans (congrArg some (by kernel_rfl))
  t3 := Tryz.underlying3
  a3 := Tryz.isAgg3
  z3 := Tryz.sizeOf3
  v3 := Tryz.zeroValue3
  t4 := Tryz.underlying4
  a4 := Tryz.isAgg4
  z4 := Tryz.sizeOf4
  v4 := Tryz.zeroValue4 }
open Go.RowKit in
theorem Tryz.cmp_isNaN_int (x : Int) (w : World) :
    Calls Tryz.prog 81 #[.int .i64 x] w fun e w' => e = .returned (.bool false) ∧ w' = w := Any.cmp_isNaN_int Tryz.lays215 x w
def Tryz.lays122_ren : Go.Shelf.Ren := ⟨fun | 122 => 65 | 215 => 81 | n => n, fun | 3 => 3 | 4 => 4 | n => n, fun | n => n⟩
theorem Tryz.lays122 : Go.Proofs.Lays.n122 Tryz.prog Tryz.lays122_ren := {
  mixed := by kernel_rfl
  f122 := Tryz.func65.trans (congrArg some (by kernel_rfl))
  f215 := Tryz.func81.trans (congrArg some (by kernel_rfl))
  t3 := Tryz.underlying3
  a3 := Tryz.isAgg3
  z3 := Tryz.sizeOf3
  v3 := Tryz.zeroValue3
  t4 := Tryz.underlying4
  a4 := Tryz.isAgg4
  z4 := Tryz.sizeOf4
  v4 := Tryz.zeroValue4 }
open Go.RowKit in
theorem Tryz.cmp_Compare_int (x y : Int) (w : World) :
    Calls Tryz.prog 65 #[.int .i64 x, .int .i64 y] w fun e w' => e = .returned (.int .i64 (Lib.compareInt x y)) ∧ w' = w := Any.cmp_Compare_int Tryz.lays122 x y w
end Go.Proofs
/- What Compare of package terms answers of any two terms. -/
namespace Go.Proofs.YtfnfbljijkjkjaaGreat
open Go.RowKit Go.Deep

/-- Nothing but new blocks. -/
def Grew (w w' : World) : Prop := ∃ os : Array Obj, w' = Sort.grow w os
set_option maxRecDepth 100000 in
theorem Grew.refl (w : World) : Grew w w := ⟨#[], by simp⟩
set_option maxRecDepth 100000 in
theorem Grew.size {w w' : World} (h : Grew w w') : w.heap.size ≤ w'.heap.size := by obtain ⟨os, rfl⟩ := h; simp
set_option maxRecDepth 100000 in
theorem Grew.trans {a b c : World} (h : Grew a b) (k : Grew b c) : Grew a c := by
  obtain ⟨os, rfl⟩ := h; obtain ⟨os', rfl⟩ := k
  exact ⟨os ++ os', by rw [Sort.grow_grow]⟩
set_option maxRecDepth 100000 in
theorem Grew.alloc {w w' : World} (h : Grew w w') (o : Obj) : Grew w (w'.alloc o) := h.trans ⟨#[o], Sort.alloc_eq_grow _ _⟩
set_option maxRecDepth 100000 in
theorem Grew.below {w w' : World} (h : Grew w w') : Below w.heap.size w w' := by
  have hs := h.size
  obtain ⟨os, rfl⟩ := h
  exact ⟨rfl, rfl, rfl, hs, fun k hk => Sort.heap_grow_old w os hk⟩

def CmpOk (k : Nat) : Prop := ∀ (x y : ByteArray × Int) (a a' : Option Addr) (c c' : Nat) (l m : Fo) (w : World), nodesF l ≤ k → TmAt w x a c l → TmAt w y a' c' m →
  Calls Tryz.prog 40 #[.agg #[.string x.1, .int .i64 x.2, .slice a (lenF l) c], .agg #[.string y.1, .int .i64 y.2, .slice a' (lenF m) c']] w
    fun e w' => e = .returned (.int .i64 (cmp1 x y (lenF l) (lenF m) (cmpF l m))) ∧ Grew w w'

set_option maxRecDepth 100000 in
set_option maxHeartbeats 1000000 in
theorem cmpfunc_any (k : Nat) (ih : ∀ j, j < k → CmpOk j) (F G : Fo) (n m c c' : Nat) (hF : nodesF F ≤ k) (hn : n = lenF F) (hm : m = lenF G) (hl : n = m) (hs : n ≤ 9223372036854775807) (a a' : Option Addr) (w : World) (hA : ArgsAt w a F) (hB : ArgsAt w a' G) :
    Calls Tryz.prog 66 #[.slice a n c, .slice a' m c', .func (.func 40) #[] #[]] w fun e w' => e = .returned (.int .i64 (cmpF F G)) ∧ Grew w w' := by
  subst hl
  have HA : Hid (ArgsAt w a F) := hA
  have HB : Hid (ArgsAt w a' G) := hB
  have HN : Hid (n = lenF F) := hn
  have HM : Hid (n = lenF G) := hm
  have IH : Hid (∀ j, j < k → CmpOk j) := ih
  clear hA hB hn hm ih
  go_enter Tryz.func66, Tryz.ntmps66
  go_wp2
  go_loopw [7, 8, 9, 10, 13] (fun _ _ _ _ i w' => ∃ k : Nat, k ≤ n ∧ i = .int .i64 k ∧ Grew w w' ∧ cmpF F G = cmpF (dropF k F) (dropF k G)) (fun _ _ _ _ i _ => n - (intOf i).toNat)
  case atStart => exact ⟨0, Nat.zero_le _, rfl, Grew.refl _, by rw [drop_zero, drop_zero]⟩
  case round =>
    obtain ⟨j, hj, rfl, hb, hcmp⟩ := hrel
    by_cases hlt : j < n
    · obtain ⟨b, o, rfl, hk1⟩ := HA.out.get (by have := HN.out; omega)
      obtain ⟨b', o', rfl, hk2⟩ := HB.out.get (by have := HM.out; omega)
      obtain ⟨x, a1, c1, l1, k1⟩ := hk1.kid (k := j) (by have := HN.out; omega)
      obtain ⟨y, a2, c2, l2, k2⟩ := hk2.kid (k := j) (by have := HM.out; omega)
      have k1' := k1.below hb.below
      have hb1 := hb.alloc (.cells #[.string x.1, .int .i64 x.2, .slice a1 (lenF l1) c1] 26)
      have k2' := k2.below hb1.below
      have p0 := k1'.name; have p1 := k1'.sym; have p2 := k1'.list
      have q0 := k2'.name; have q1 := k2'.sym; have q2 := k2'.list
      have hb2 := hb1.alloc (.cells #[.string y.1, .int .i64 y.2, .slice a2 (lenF l2) c2] 26)
      have HB2 : Hid (Grew w ((wr.alloc (.cells #[.string x.1, .int .i64 x.2, .slice a1 (lenF l1) c1] 26)).alloc (.cells #[.string y.1, .int .i64 y.2, .slice a2 (lenF l2) c2] 26))) := hb2
      have IHc := IH.out (nodesF l1) (by have := k1.less; omega) x y a1 a2 c1 c2 l1 l2 _ (Nat.le_refl _) (k1.below hb2.below).at_ (k2.below hb2.below).at_
      obtain ⟨B1, O1, s1⟩ := k1.split
      obtain ⟨B2, O2, s2⟩ := k2.split
      rw [s1, s2, cmpF] at hcmp
      have HC : Hid (cmpF F G = thenC (cmp1 x y (lenF l1) (lenF l2) (cmpF l1 l2)) (cmpF (dropF (j + 1) F) (dropF (j + 1) G))) := hcmp
      clear k1 k2 k1' k2' hk1 hk2 hcmp hb1 hb2 s1 s2
      go_wp2_with fail
      refine IHc.mono ?_
      rintro e w2 ⟨rfl, hb3⟩
      have HB3 : Hid (Grew w w2) := HB2.out.trans hb3
      clear IHc hb3
      cases hz : (cmp1 x y (lenF l1) (lenF l2) (cmpF l1 l2) != 0)
      · go_wp2
        go_roundw
        case rel => exact ⟨j + 1, by omega, by go_num, HB3.out, by rw [HC.out]; unfold thenC; rw [if_pos (by simpa using hz)]⟩
        case measure => simp [intOf]; omega
      · go_wp2
        go_ret
        refine ⟨?_, HB3.out⟩
        rw [HC.out]; unfold thenC; rw [if_neg (by simpa using hz)]; rfl
    · have hz : cmpF F G = 0 := by
        rw [hcmp, show j = n by omega]
        have e1 := drop_end F
        rw [← HN.out] at e1
        rw [e1]; rfl
      go_wp2
      go_ret
      exact ⟨by rw [hz]; rfl, hb⟩

set_option maxRecDepth 100000 in
set_option maxHeartbeats 1000000 in
theorem compare_all : ∀ k, CmpOk k := by
  intro k
  induction k using Nat.strongRecOn with
  | _ k ih =>
    intro x y a a' c c' l m w hk hA hB
    have HA : Hid (TmAt w x a c l) := hA
    have HB : Hid (TmAt w y a' c' m) := hB
    have IH : Hid (∀ j, j < k → CmpOk j) := ih
    clear hA hB ih
    have hb2 : Grew w ((w.alloc (.cells #[.string x.1, .int .i64 x.2, .slice a (lenF l) c] 26)).alloc (.cells #[.string y.1, .int .i64 y.2, .slice a' (lenF m) c'] 26)) := ((Grew.refl w).alloc _).alloc _
    have HB2 : Hid (Grew w ((w.alloc (.cells #[.string x.1, .int .i64 x.2, .slice a (lenF l) c] 26)).alloc (.cells #[.string y.1, .int .i64 y.2, .slice a' (lenF m) c'] 26))) := hb2
    clear hb2
    cases hx : x.1.toList.isEmpty <;> cases hy : y.1.toList.isEmpty
    · have hr : Hid (cmp1 x y (lenF l) (lenF m) (cmpF l m) = Lib.compareBytes x.1.data.toList y.1.data.toList) := by show _ = _; unfold cmp1 noName cmpS; rw [hx, hy]; rfl
      go_enter Tryz.func40, Tryz.ntmps40
      go_wp2_with fail
      refine (Tryz.strings_Compare _ _ _).mono ?_
      rintro e w2 ⟨rfl, rfl⟩
      go_wp2
      go_ret
      exact ⟨by rw [hr.out]; rfl, HB2.out⟩
    · have hr : Hid (cmp1 x y (lenF l) (lenF m) (cmpF l m) = -1) := by show _ = _; unfold cmp1 noName cmpS; rw [hx, hy]; rfl
      go_enter Tryz.func40, Tryz.ntmps40
      go_wp2
      go_ret
      exact ⟨by rw [hr.out]; rfl, HB2.out⟩
    · have hr : Hid (cmp1 x y (lenF l) (lenF m) (cmpF l m) = 1) := by show _ = _; unfold cmp1 noName cmpS; rw [hx, hy]; rfl
      go_enter Tryz.func40, Tryz.ntmps40
      go_wp2
      go_ret
      exact ⟨by rw [hr.out]; rfl, HB2.out⟩
    · cases hs : (x.2 != y.2)
      · cases hn : ((lenF l : Int) != (lenF m : Int))
        · have hr : Hid (cmp1 x y (lenF l) (lenF m) (cmpF l m) = cmpF l m) := by
            show _ = _; unfold cmp1 noName cmpS; rw [hx, hy]; simp at hs hn; simp [hs]; omega
          have hc := cmpfunc_any k IH.out l m (lenF l) (lenF m) c c' hk rfl rfl (by simp at hn; omega) (by have := HA.out.sizes.len; have := HA.out.sizes.cap; unfold maxLen at *; omega) a a' _ (HA.out.args.below HB2.out.below) (HB.out.args.below HB2.out.below)
          go_enter Tryz.func40, Tryz.ntmps40
          go_wp2_with fail
          refine hc.mono ?_
          rintro e w2 ⟨rfl, hb3⟩
          go_wp2
          go_ret
          exact ⟨by rw [hr.out]; rfl, HB2.out.trans hb3⟩
        · have hr : Hid (cmp1 x y (lenF l) (lenF m) (cmpF l m) = Lib.compareInt (lenF l) (lenF m)) := by
            show _ = _; unfold cmp1 noName cmpS; rw [hx, hy]; simp at hs hn; simp [hs]; omega
          go_enter Tryz.func40, Tryz.ntmps40
          go_wp2_with fail
          refine (Tryz.cmp_Compare_int _ _ _).mono ?_
          rintro e w2 ⟨rfl, rfl⟩
          go_wp2
          go_ret
          exact ⟨by rw [hr.out]; rfl, HB2.out⟩
      · have hr : Hid (cmp1 x y (lenF l) (lenF m) (cmpF l m) = Lib.compareInt x.2 y.2) := by
          show _ = _; unfold cmp1 noName cmpS; rw [hx, hy]; simp at hs; simp [hs]
        go_enter Tryz.func40, Tryz.ntmps40
        go_wp2_with fail
        refine (Tryz.cmp_Compare_int _ _ _).mono ?_
        rintro e w2 ⟨rfl, rfl⟩
        go_wp2
        go_ret
        exact ⟨by rw [hr.out]; rfl, HB2.out⟩
end Go.Proofs.YtfnfbljijkjkjaaGreat
/- Terms in memory no two of whose lists share a block. -/
namespace Go.Proofs.YtfnfbljijkjkjaaGreat
open Go.RowKit Go.Deep

/-- From this cell on these terms lie; their own lists have blocks of A, each another. -/
def SepKids (w : World) : Fo → (Nat → Prop) → Nat → Nat → Prop
  | .nil, _, _, _ => True
  | .node _ _ x l r, A, b, o => ∃ A1 A2 : Nat → Prop, (∀ k, A1 k → A k) ∧ (∀ k, A2 k → A k ∧ ¬ A1 k) ∧
      (∃ a c, w.cell? ⟨b, o, none⟩ = some (.string x.1) ∧ w.cell? ⟨b, o + 1, none⟩ = some (.int .i64 x.2) ∧ w.cell? ⟨b, o + 2, none⟩ = some (.slice a (lenF l) c) ∧ Sizes x.1 (lenF l) c ∧
        (l = .nil ∨ ∃ g cur, a = some ⟨g, 0, none⟩ ∧ A1 g ∧ w.heap[g]? = some (Obj.cells cur 26 (0, 0)) ∧ SepKids w l (fun k => A1 k ∧ k ≠ g) g 0)) ∧ SepKids w r A2 b (o + 3)
structure SepTm (w : World) (A : Nat → Prop) (x : ByteArray × Int) (a : Option Addr) (c : Nat) (l : Fo) : Prop where
  sizes : Sizes x.1 (lenF l) c
  list : l = .nil ∨ ∃ g cur, a = some ⟨g, 0, none⟩ ∧ A g ∧ w.heap[g]? = some (Obj.cells cur 26 (0, 0)) ∧ SepKids w l (fun k => A k ∧ k ≠ g) g 0

theorem SepKids.kids {w : World} : ∀ {F : Fo} {A : Nat → Prop} {b o : Nat}, SepKids w F A b o → KidsAt w F b o
  | .nil, _, _, _, _ => trivial
  | .node _ _ _ l r, A, b, o, ⟨A1, A2, _, _, ⟨a, c, h0, h1, h2, hs, hl⟩, hr⟩ => ⟨⟨a, c, h0, h1, h2, hs, by
      rcases hl with h | ⟨g, cur, ha, _, _, hk⟩
      · exact .inl h
      · exact .inr ⟨g, 0, ha, SepKids.kids hk⟩⟩, SepKids.kids hr⟩
theorem SepTm.tm {w : World} {A : Nat → Prop} {x : ByteArray × Int} {a : Option Addr} {c : Nat} {l : Fo} (h : SepTm w A x a c l) : TmAt w x a c l :=
  ⟨h.sizes, by
    rcases h.list with h | ⟨g, cur, ha, _, _, hk⟩
    · exact .inl h
    · exact .inr ⟨g, 0, ha, hk.kids⟩⟩
theorem SepKids.mono {w : World} : ∀ {F : Fo} {A A' : Nat → Prop} {b o : Nat}, (∀ k, A k → A' k) → SepKids w F A b o → SepKids w F A' b o
  | .nil, _, _, _, _, _, _ => trivial
  | .node _ _ _ _ _, _, _, _, _, hA, ⟨A1, A2, h1, h2, h3, h4⟩ => ⟨A1, A2, fun k hk => hA k (h1 k hk), fun k hk => ⟨hA k (h2 k hk).1, (h2 k hk).2⟩, h3, h4⟩
theorem SepTm.mono {w : World} {A A' : Nat → Prop} {x : ByteArray × Int} {a : Option Addr} {c : Nat} {l : Fo} (hA : ∀ k, A k → A' k) (h : SepTm w A x a c l) : SepTm w A' x a c l :=
  ⟨h.sizes, by
    rcases h.list with h | ⟨g, cur, ha, hg, hc, hk⟩
    · exact .inl h
    · exact .inr ⟨g, cur, ha, hA g hg, hc, hk.mono (fun k hk => ⟨hA k hk.1, hk.2⟩)⟩⟩
/-- The cells of the list itself are as they were from this place on; so are the blocks of A. -/
theorem SepKids.keep {w w' : World} : ∀ {F : Fo} {A : Nat → Prop} {b o : Nat}, (∀ k, A k → k < w.heap.size → w'.heap[k]? = w.heap[k]?) → (∀ i v, o ≤ i → w.cell? ⟨b, i, none⟩ = some v → w'.cell? ⟨b, i, none⟩ = some v) → SepKids w F A b o → SepKids w' F A b o
  | .nil, _, _, _, _, _, _ => trivial
  | .node _ _ _ l r, A, b, o, hp, hb, ⟨A1, A2, h1, h2, ⟨a, c, c0, c1, c2, hs, hl⟩, hr⟩ => ⟨A1, A2, h1, h2, ⟨a, c, hb _ _ (Nat.le_refl _) c0, hb _ _ (by omega) c1, hb _ _ (by omega) c2, hs, by
      rcases hl with h | ⟨g, cur, ha, hg, hc, hk⟩
      · exact .inl h
      · have hgg := hp g (h1 g hg) (Array.getElem?_eq_some_iff.1 hc).1
        exact .inr ⟨g, cur, ha, hg, hgg.trans hc, SepKids.keep (fun k hk hlt => hp k (h1 k hk.1) hlt) (fun i v _ hv => (World.cell?_of_block hgg).trans hv) hk⟩⟩,
    SepKids.keep (fun k hk hlt => hp k (h2 k hk).1 hlt) (fun i v hi hv => hb i v (by omega) hv) hr⟩
theorem SepTm.keep {w w' : World} {A : Nat → Prop} {x : ByteArray × Int} {a : Option Addr} {c : Nat} {l : Fo} (hp : ∀ k, A k → k < w.heap.size → w'.heap[k]? = w.heap[k]?) (h : SepTm w A x a c l) : SepTm w' A x a c l :=
  ⟨h.sizes, by
    rcases h.list with h | ⟨g, cur, ha, hg, hc, hk⟩
    · exact .inl h
    · have hgg := hp g hg (Array.getElem?_eq_some_iff.1 hc).1
      exact .inr ⟨g, cur, ha, hg, hgg.trans hc, hk.keep (fun k hk hlt => hp k hk.1 hlt) (fun i v _ hv => (World.cell?_of_block hgg).trans hv)⟩⟩
theorem SepTm.below {w w' : World} {A : Nat → Prop} {x : ByteArray × Int} {a : Option Addr} {c : Nat} {l : Fo} (h : SepTm w A x a c l) (hb : Below w.heap.size w w') : SepTm w' A x a c l := h.keep fun k _ hk => hb.block k hk
/-- The blocks that there are serve. -/
theorem SepKids.within {w : World} : ∀ {F : Fo} {A : Nat → Prop} {b o : Nat}, SepKids w F A b o → SepKids w F (fun k => A k ∧ k < w.heap.size) b o
  | .nil, _, _, _, _ => trivial
  | .node _ _ _ l r, A, b, o, ⟨A1, A2, h1, h2, ⟨a, c, c0, c1, c2, hs, hl⟩, hr⟩ => ⟨fun k => A1 k ∧ k < w.heap.size, fun k => A2 k ∧ k < w.heap.size, fun k hk => ⟨h1 k hk.1, hk.2⟩, fun k hk => ⟨⟨(h2 k hk.1).1, hk.2⟩, fun h => (h2 k hk.1).2 h.1⟩, ⟨a, c, c0, c1, c2, hs, by
      rcases hl with h | ⟨g, cur, ha, hg, hc, hk⟩
      · exact .inl h
      · exact .inr ⟨g, cur, ha, ⟨hg, (Array.getElem?_eq_some_iff.1 hc).1⟩, hc, (SepKids.within hk).mono (fun k hk => ⟨⟨hk.1.1, hk.2⟩, hk.1.2⟩)⟩⟩, SepKids.within hr⟩
theorem SepTm.within {w : World} {A : Nat → Prop} {x : ByteArray × Int} {a : Option Addr} {c : Nat} {l : Fo} (h : SepTm w A x a c l) : SepTm w (fun k => A k ∧ k < w.heap.size) x a c l :=
  ⟨h.sizes, by
    rcases h.list with h | ⟨g, cur, ha, hg, hc, hk⟩
    · exact .inl h
    · exact .inr ⟨g, cur, ha, ⟨hg, (Array.getElem?_eq_some_iff.1 hc).1⟩, hc, hk.within.mono (fun k hk => ⟨⟨hk.1.1, hk.2⟩, hk.1.2⟩)⟩⟩

/-! ### lists of such terms -/
def SepL (w : World) : List Kv → (Nat → Prop) → Prop
  | [], _ => True
  | k :: r, A => ∃ A1 A2 : Nat → Prop, (∀ q, A1 q → A q) ∧ (∀ q, A2 q → A q ∧ ¬ A1 q) ∧ SepTm w A1 k.x k.a k.c k.l ∧ SepL w r A2
theorem SepL.keep {w w' : World} : ∀ {ks : List Kv} {A : Nat → Prop}, (∀ k, A k → k < w.heap.size → w'.heap[k]? = w.heap[k]?) → SepL w ks A → SepL w' ks A
  | [], _, _, _ => trivial
  | _ :: _, _, hp, ⟨A1, A2, h1, h2, h3, h4⟩ => ⟨A1, A2, h1, h2, h3.keep (fun k hk hlt => hp k (h1 k hk) hlt), SepL.keep (fun k hk hlt => hp k (h2 k hk).1 hlt) h4⟩
theorem SepL.mono {w : World} : ∀ {ks : List Kv} {A A' : Nat → Prop}, (∀ k, A k → A' k) → SepL w ks A → SepL w ks A'
  | [], _, _, _, _ => trivial
  | _ :: _, _, _, hA, ⟨A1, A2, h1, h2, h3, h4⟩ => ⟨A1, A2, fun k hk => hA k (h1 k hk), fun k hk => ⟨hA k (h2 k hk).1, (h2 k hk).2⟩, h3, h4⟩
theorem SepL.snoc {w : World} {kv : Kv} {B : Nat → Prop} (hk : SepTm w B kv.x kv.a kv.c kv.l) : ∀ {ks : List Kv} {A : Nat → Prop}, (∀ q, A q → ¬ B q) → SepL w ks A → SepL w (ks ++ [kv]) (fun q => A q ∨ B q)
  | [], A, _, _ => ⟨B, fun _ => False, fun q hq => .inr hq, fun q hq => hq.elim, hk, trivial⟩
  | k :: r, A, hd, ⟨A1, A2, h1, h2, h3, h4⟩ => ⟨A1, fun q => A2 q ∨ B q, fun q hq => .inl (h1 q hq), fun q hq => by
      rcases hq with hq | hq
      · exact ⟨.inl (h2 q hq).1, (h2 q hq).2⟩
      · exact ⟨.inr hq, fun h => hd q (h1 q h) hq⟩, h3, SepL.snoc hk (fun q hq => hd q (h2 q hq).1) h4⟩
theorem sepKids_of {w : World} {b : Nat} : ∀ (F : Fo) (ks : List Kv) (A : Nat → Prop) (o : Nat), ks.map (fun k => (k.x, k.l)) = kidsL F → (∀ j u, (kvCells ks)[j]? = some u → w.cell? ⟨b, o + j, none⟩ = some u) → SepL w ks A → SepKids w F A b o
  | .nil, _, _, _, _, _, _ => trivial
  | .node _ _ x l r, [], _, o, h, _, _ => by simp [kidsL] at h
  | .node _ _ x l r, k :: ks, A, o, h, hc, ⟨A1, A2, h1, h2, h3, h4⟩ => by
    simp only [List.map_cons, kidsL, List.cons.injEq, Prod.mk.injEq] at h
    obtain ⟨⟨rfl, rfl⟩, h⟩ := h
    have e : kvCells (k :: ks) = .string k.x.1 :: .int .i64 k.x.2 :: .slice k.a (lenF k.l) k.c :: kvCells ks := rfl
    rw [e] at hc
    refine ⟨A1, A2, h1, h2, ⟨k.a, k.c, hc 0 _ rfl, hc 1 _ rfl, hc 2 _ rfl, h3.sizes, h3.list⟩, sepKids_of r ks A2 (o + 3) h (fun j u hu => ?_) h4⟩
    have := hc (j + 3) u (by simpa using hu)
    rw [show o + 3 + j = o + (j + 3) by omega]
    exact this
end Go.Proofs.YtfnfbljijkjkjaaGreat
/- What Clone of package terms makes: the term in new memory. -/
namespace Go.Proofs.YtfnfbljijkjkjaaGreat
open Go.RowKit Go.Deep

def CloneOk (k : Nat) : Prop := ∀ (x : ByteArray × Int) (l : Fo) (a : Option Addr) (c : Nat) (w : World), nodesF l ≤ k → TmAt w x a c l →
  Calls Tryz.prog 41 #[.agg #[.string x.1, .int .i64 x.2, .slice a (lenF l) c]] w fun e w' => ∃ a' c', e = .returned (.agg #[.string x.1, .int .i64 x.2, .slice a' (lenF l) c']) ∧ SepTm w' (fun k => w.heap.size ≤ k) x a' c' l ∧ Below w.heap.size w w' ∧ (lenF l = 0 → a' = none ∧ c' = 0)

/-- A fresh row, some of whose places are filled. -/
structure Fill (w : World) (n : Nat) (W : World) (ks : List Kv) : Prop where
  low : Below w.heap.size w W
  row : ∃ cur, W.heap[w.heap.size]? = some (Obj.cells cur 26 (0, 0)) ∧ cur.size = n * 3 ∧ ∀ (i : Nat) (u : Value), (kvCells ks)[i]? = some u → cur[i]? = some u
  own : SepL W ks (fun q => w.heap.size < q ∧ q < W.heap.size)
theorem Fill.cell {w : World} {n : Nat} {W : World} {ks : List Kv} (h : Fill w n W ks) {i : Nat} (hi : i < n * 3) : ∃ v, W.cell? ⟨w.heap.size, i, none⟩ = some v := by
  obtain ⟨cur, h1, h2, _⟩ := h.row
  exact ⟨cur[i]'(by omega), by rw [cell_of_row W w.heap.size i cur 26 (0, 0) h1]; simp [show i < cur.size by omega]⟩
theorem Fill.frozen {w : World} {n : Nat} {W : World} {ks : List Kv} (h : Fill w n W ks) (i : Nat) : W.frozen? ⟨w.heap.size, i, none⟩ = false := by
  obtain ⟨cur, h1, _⟩ := h.row
  simp [World.frozen?, h1]
/-- What the callee has made is stored at its place. -/
theorem Fill.step {w wr w1 : World} {n : Nat} {ks : List Kv} {kv : Kv} (h : Fill w n wr ks) (hb : Below wr.heap.size wr w1) (hk : SepTm w1 (fun q => wr.heap.size ≤ q) kv.x kv.a kv.c kv.l) (hlt : ks.length < n) :
    Fill w n (((w1.setCell ⟨w.heap.size, ks.length * 3, none⟩ (.string kv.x.1)).setCell ⟨w.heap.size, ks.length * 3 + 1, none⟩ (.int .i64 kv.x.2)).setCell ⟨w.heap.size, ks.length * 3 + 2, none⟩ (.slice kv.a (lenF kv.l) kv.c)) (ks ++ [kv]) := by
  obtain ⟨cur, h1, h2, h3⟩ := h.row
  have hglt : w.heap.size < wr.heap.size := (Array.getElem?_eq_some_iff.1 h1).1
  have h1' : w1.heap[w.heap.size]? = some (Obj.cells cur 26 (0, 0)) := (hb.block _ hglt).trans h1
  have far : ∀ q, w.heap.size < q → (((w1.setCell ⟨w.heap.size, ks.length * 3, none⟩ (.string kv.x.1)).setCell ⟨w.heap.size, ks.length * 3 + 1, none⟩ (.int .i64 kv.x.2)).setCell ⟨w.heap.size, ks.length * 3 + 2, none⟩ (.slice kv.a (lenF kv.l) kv.c)).heap[q]? = w1.heap[q]? := fun q hq => by
    rw [Below.heap_setCell _ _ _ q (by show q ≠ w.heap.size; omega), Below.heap_setCell _ _ _ q (by show q ≠ w.heap.size; omega), Below.heap_setCell _ _ _ q (by show q ≠ w.heap.size; omega)]
  refine ⟨?_, ⟨_, block_set (block_set (block_set h1' _) _) _, by simp [h2], ?_⟩, ?_⟩
  · exact (((h.low.trans (hb.mono h.low.size)).setCell (p := ⟨w.heap.size, ks.length * 3, none⟩) (Nat.le_refl _) _).setCell (p := ⟨w.heap.size, ks.length * 3 + 1, none⟩) (Nat.le_refl _) _).setCell (p := ⟨w.heap.size, ks.length * 3 + 2, none⟩) (Nat.le_refl _) _
  · intro i u hu
    rw [kvCells_snoc] at hu
    have hl := kvCells_len ks
    have hkl : kv.cells.length = 3 := rfl
    have hi : i < ks.length * 3 + 3 := by
      rcases Nat.lt_or_ge i (ks.length * 3 + 3) with h' | h'
      · exact h'
      · rw [List.getElem?_eq_none (by rw [List.length_append]; omega)] at hu; cases hu
    simp only [Array.getElem?_setIfInBounds, Array.size_setIfInBounds]
    by_cases hc : i < ks.length * 3
    · rw [List.getElem?_append_left (by omega)] at hu
      rw [if_neg (by omega), if_neg (by omega), if_neg (by omega)]
      exact h3 i u hu
    · rw [List.getElem?_append_right (by omega), hl] at hu
      have hcase : i = ks.length * 3 ∨ i = ks.length * 3 + 1 ∨ i = ks.length * 3 + 2 := by omega
      rcases hcase with e | e | e
      · subst e
        rw [if_neg (by omega), if_neg (by omega), if_pos rfl, if_pos (by omega)]
        simpa [Kv.cells] using hu
      · subst e
        rw [if_neg (by omega), if_pos rfl, if_pos (by omega)]
        rw [show ks.length * 3 + 1 - ks.length * 3 = 1 by omega] at hu
        simpa [Kv.cells] using hu
      · subst e
        rw [if_pos rfl, if_pos (by omega)]
        rw [show ks.length * 3 + 2 - ks.length * 3 = 2 by omega] at hu
        simpa [Kv.cells] using hu
  · have h5 : SepL w1 ks (fun q => w.heap.size < q ∧ q < wr.heap.size) := h.own.keep (fun q hq hlt => hb.block q hlt)
    have h6 := SepL.snoc hk.within (fun q hq => by intro h'; have := hq.2; have := h'.1; omega) h5
    have hsz : (((w1.setCell ⟨w.heap.size, ks.length * 3, none⟩ (.string kv.x.1)).setCell ⟨w.heap.size, ks.length * 3 + 1, none⟩ (.int .i64 kv.x.2)).setCell ⟨w.heap.size, ks.length * 3 + 2, none⟩ (.slice kv.a (lenF kv.l) kv.c)).heap.size = w1.heap.size := by simp
    rw [hsz]
    have hbs := hb.size
    refine (h6.keep (fun q hq _ => far q ?_)).mono (fun q hq => ?_)
    · rcases hq with hq | hq
      · exact hq.1
      · have := hq.1; omega
    · rcases hq with hq | hq
      · exact ⟨hq.1, by omega⟩
      · exact ⟨by have := hq.1; omega, hq.2⟩
theorem Fill.done {w W : World} {x : ByteArray × Int} {l : Fo} {ks : List Kv} (h : Fill w (lenF l) W ks) (hks : ks.map (fun k => (k.x, k.l)) = kidsL l) (hx : x.1.size ≤ maxLen) (hn : lenF l ≤ maxLen) (hf : lenF l * 48 ≤ 140737488351232) :
    SepTm W (fun q => w.heap.size ≤ q) x (some ⟨w.heap.size, 0, none⟩) (lenF l) l := by
  obtain ⟨cur, h1, h2, h3⟩ := h.row
  refine ⟨⟨hx, Nat.le_refl _, hn, hf⟩, .inr ⟨w.heap.size, cur, rfl, Nat.le_refl _, h1, ?_⟩⟩
  refine sepKids_of l ks _ 0 hks (fun j u hu => ?_) (h.own.mono (fun q hq => ⟨by have := hq.1; omega, by have := hq.1; omega⟩))
  rw [Nat.zero_add, cell_of_row W w.heap.size j cur 26 (0, 0) h1]
  exact h3 j u hu

set_option maxRecDepth 100000 in
set_option maxHeartbeats 2000000 in
theorem cloneList_any (k : Nat) (ih : ∀ j, j < k → CloneOk j) (x : ByteArray × Int) (l : Fo) (a : Option Addr) (c : Nat) (w : World) (hk : nodesF l ≤ k) (hT : TmAt w x a c l) :
    Calls Tryz.prog 67 #[.slice a (lenF l) c] w fun e w' => ∃ a' c', e = .returned (.slice a' (lenF l) c') ∧ SepTm w' (fun k => w.heap.size ≤ k) x a' c' l ∧ Below w.heap.size w w' ∧ (lenF l = 0 → a' = none ∧ c' = 0) := by
  obtain ⟨i0, hi, hz0, hz1, hz2⟩ := info_parts Tryz.info26
  have HT : Hid (TmAt w x a c l) := hT
  have IH : Hid (∀ j, j < k → CloneOk j) := ih
  have hmax : maxLen = 9223372036854775807 := rfl
  have hn1 := hT.sizes.len
  have hn2 := hT.sizes.cap
  have hfew := hT.sizes.few
  clear hT ih
  by_cases h0 : lenF l = 0
  · have hl := len_nil h0
    subst hl
    go_enter Tryz.func67, Tryz.ntmps67
    go_wp2
    go_ret
    exact ⟨none, 0, rfl, ⟨⟨HT.out.sizes.name, by simp [lenF], by simp, by simp [lenF]⟩, .inl rfl⟩, Below.refl _ _, fun _ => ⟨rfl, rfl⟩⟩
  · obtain ⟨bb, oo, rfl, hkk⟩ := HT.out.args.get (by omega)
    have HKK : Hid (KidsAt w l bb oo) := hkk
    clear hkk
    have hne : ((lenF l : Int) == 0) = false := by simp; omega
    go_enter Tryz.func67, Tryz.ntmps67
    go_wp2_with (at_make; refine wpList_make_full _ rfl _ _ 24 rfl w.heap.size 26 i0 (.agg #[.string ⟨#[]⟩, .int .i64 0, .slice none 0 0]) 3 Tryz.underlying24 hi hz0 hz1 .i64 .i64 _ _ (lenF l) rfl rfl rfl rfl (by rw [hz2]; omega) (by omega) (Nat.le_refl _) ?_; intro w0 hown0 hgrow0)
    have F0 : Fill w (lenF l) w0 [] := by
      refine ⟨(Below.refl _ _).grown hgrow0 (Nat.le_refl _) (fun k e => by cases e), ?_, trivial⟩
      rcases hown0.2 with ⟨hv, _⟩ | ⟨g', cap', cur, hv, _, hh, _, _, hcs, _⟩
      · cases hv
      · cases hv
        exact ⟨cur, hh, hcs, fun i u hu => by simp [kvCells] at hu⟩
    clear hown0 hgrow0
    go_loopw [4, 5, 14] (fun _ _ i wr => ∃ (j : Nat) (ks : List Kv), j ≤ lenF l ∧ i = .int .i64 j ∧ ks.length = j ∧ Fill w (lenF l) wr ks ∧ ks.map (fun k => (k.x, k.l)) = (kidsL l).take j) (fun _ _ i _ => lenF l - (intOf i).toNat)
    case atStart => exact ⟨0, [], Nat.zero_le _, rfl, rfl, F0, by simp⟩
    case round =>
      obtain ⟨j, ks, hj, rfl, hkl, hF, hks⟩ := hrel
      have FR : Hid (Fill w (lenF l) wr ks) := hF
      have HKS : Hid (ks.map (fun k => (k.x, k.l)) = (kidsL l).take j) := hks
      clear hks F0
      by_cases hlt : j < lenF l
      · obtain ⟨y, a1, c1, l1, kd⟩ := HKK.out.kid (k := j) hlt
        have kd' := kd.below hF.low
        have p0 := kd'.name; have p1 := kd'.sym; have p2 := kd'.list
        have hb1 : Below wr.heap.size wr (wr.alloc (.cells #[.string y.1, .int .i64 y.2, .slice a1 (lenF l1) c1] 26)) := (Below.refl _ _).alloc (Nat.le_refl _) _
        have hC := IH.out (nodesF l1) (by have := kd.less; omega) y l1 a1 c1 _ (Nat.le_refl _) (kd'.at_.below hb1)
        have KD : Hid (Kid w l bb oo j y a1 c1 l1) := kd
        have HB1 : Hid (Below wr.heap.size wr (wr.alloc (.cells #[.string y.1, .int .i64 y.2, .slice a1 (lenF l1) c1] 26))) := hb1
        have hgl : w.heap.size < wr.heap.size := by obtain ⟨cur, h1, _⟩ := hF.row; exact (Array.getElem?_eq_some_iff.1 h1).1
        clear kd kd' hb1 hF
        go_wp2_with fail
        refine hC.mono ?_
        rintro e w2 ⟨a', c', rfl, ho2, hb2, hz2⟩
        clear hz2
        have HW2 : Hid (Below wr.heap.size wr w2) := HB1.out.trans (hb2.mono HB1.out.size)
        have HO2 : Hid (SepTm w2 (fun q => wr.heap.size ≤ q) y a' c' l1) := ho2.mono (fun q hq => by have := HB1.out.size; simp at hq; omega)
        have F2 : Fill w (lenF l) w2 ks := by
          obtain ⟨cur, h1, h2, h3⟩ := FR.out.row
          exact ⟨FR.out.low.trans (HW2.out.mono FR.out.low.size), ⟨cur, (HW2.out.block _ hgl).trans h1, h2, h3⟩, (FR.out.own.keep (fun q hq hlt => HW2.out.block q hlt)).mono (fun q hq => ⟨hq.1, Nat.lt_of_lt_of_le hq.2 HW2.out.size⟩)⟩
        obtain ⟨u0, v0⟩ := F2.cell (i := j * 3) (by omega)
        obtain ⟨u1, v1⟩ := F2.cell (i := j * 3 + 1) (by omega)
        obtain ⟨u2, v2⟩ := F2.cell (i := j * 3 + 2) (by omega)
        have f0 := F2.frozen (j * 3)
        have f1 := F2.frozen (j * 3 + 1)
        have f2 := F2.frozen (j * 3 + 2)
        clear hC ho2 hb2 F2 p0 p1 p2
        go_wp2
        go_roundw
        case rel =>
          obtain ⟨B1, O1, sp⟩ := KD.out.split
          have hst := FR.out.step (kv := ⟨y, l1, a', c'⟩) HW2.out HO2.out (by omega)
          rw [hkl] at hst
          exact ⟨j + 1, ks ++ [⟨y, l1, a', c'⟩], by omega, by go_num, by simp [hkl], hst, by rw [kids_take sp, ← HKS.out]; simp⟩
        case measure => simp [intOf]; omega
      · have e1 : j = lenF l := by omega
        go_wp2
        go_ret
        refine ⟨_, lenF l, rfl, FR.out.done (by rw [HKS.out, e1, ← kids_len, List.take_length]) HT.out.sizes.name (by omega) hfew, FR.out.low, fun e => absurd e h0⟩

set_option maxRecDepth 100000 in
set_option maxHeartbeats 2000000 in
theorem clone_all : ∀ k, CloneOk k := by
  intro k
  induction k using Nat.strongRecOn with
  | _ k ih =>
    intro x l a c w hk hT
    have HT : Hid (TmAt w x a c l) := hT
    obtain ⟨W0, hW0⟩ : ∃ W0, (w.alloc (.cells #[.string x.1, .int .i64 x.2, .slice a (lenF l) c] 26)).alloc (.cells #[.string ⟨#[]⟩, .int .i64 0, .slice none 0 0] 26) = W0 := ⟨_, rfl⟩
    have hb0 : Below w.heap.size w W0 := by rw [← hW0]; exact ((Below.refl _ w).alloc (Nat.le_refl _) _).alloc (by simp) _
    have b1 : XBox W0 w.heap.size x (.slice a (lenF l) c) := by rw [← hW0]; exact (Below.heap_alloc _ _ _ (by simp)).trans (World.alloc_heap_new w _)
    have b2 : XBox W0 (w.heap.size + 1) (⟨#[]⟩, 0) (.slice none 0 0) := by
      have := World.alloc_heap_new (w.alloc (.cells #[.string x.1, .int .i64 x.2, .slice a (lenF l) c] 26)) (.cells #[.string ⟨#[]⟩, .int .i64 0, .slice none 0 0] 26)
      rw [World.size_alloc] at this
      rw [← hW0]; exact this
    have hsz : W0.heap.size = w.heap.size + 2 := by rw [← hW0]; simp
    have hC := cloneList_any k ih x l a c W0 hk (hT.below hb0)
    clear hT ih
    have z2 := b1.c2
    go_enter Tryz.func41, Tryz.ntmps41
    go_wp2_with fail
    clear hW0 z2
    refine hC.mono ?_
    rintro e w2 ⟨a', c', rfl, ho2, hb2, hzz⟩
    have HZ : Hid (lenF l = 0 → a' = none ∧ c' = 0) := hzz
    clear hzz
    have B1 : XBox w2 w.heap.size x (.slice a (lenF l) c) := b1.below hb2
    have B2 : XBox w2 (w.heap.size + 1) (⟨#[]⟩, 0) (.slice none 0 0) := b2.below hb2
    have c2 := B1.c2
    have f2 := B1.f (k := 2)
    have X1 := B1.set (.slice a' (lenF l) c')
    have x0 := X1.c0; have x1 := X1.c1; have x2 := X1.c2
    have R1 := B2.other (p := ⟨w.heap.size, 2, none⟩) (by show w.heap.size + 1 ≠ w.heap.size; omega) (.slice a' (lenF l) c')
    have r0 := R1.c0; have r1 := R1.c1; have r2 := R1.c2
    have g0 := R1.f (k := 0); have g1 := R1.f (k := 1); have g2 := R1.f (k := 2)
    have HR1 : Hid (XBox (w2.setCell ⟨w.heap.size, 2, none⟩ (.slice a' (lenF l) c')) (w.heap.size + 1) (⟨#[]⟩, 0) (.slice none 0 0)) := R1
    have HO2 : Hid (SepTm w2 (fun k => W0.heap.size ≤ k) x a' c' l) := ho2
    have HB2 : Hid (Below w.heap.size w w2) := hb0.trans (hb2.mono hb0.size)
    have HSZ : Hid (W0.heap.size = w.heap.size + 2) := hsz
    clear hC ho2 hb2 B1 B2 b1 b2 X1 R1 hb0 hsz
    go_wp2
    refine bodyPost_ret (results_cell_row rfl _ _ (w.heap.size + 1) 26 #[.string x.1, .int .i64 x.2, .slice a' (lenF l) c'] (0, 0) _ rfl (HR1.out.all (x := x) _) Tryz.underlying26 rfl Tryz.size26) rfl ?_
    refine ⟨a', c', rfl, ?_, ?_, HZ.out⟩
    · refine (HO2.out.keep (fun q hq _ => ?_)).mono (fun q hq => by have := HSZ.out; omega)
      have := HSZ.out
      exact (sets_far (by omega) _ _ _).trans (Below.heap_setCell w2 _ _ q (by show q ≠ w.heap.size; omega))
    · exact sets_below (HB2.out.setCell (p := ⟨w.heap.size, 2, none⟩) (Nat.le_refl _) _) (by omega) _ _ _

theorem clone_any (x : ByteArray × Int) (l : Fo) (a : Option Addr) (c : Nat) (w : World) (hT : TmAt w x a c l) :
    Calls Tryz.prog 41 #[.agg #[.string x.1, .int .i64 x.2, .slice a (lenF l) c]] w fun e w' => ∃ a' c', e = .returned (.agg #[.string x.1, .int .i64 x.2, .slice a' (lenF l) c']) ∧ SepTm w' (fun k => w.heap.size ≤ k) x a' c' l ∧ Below w.heap.size w w' ∧ (lenF l = 0 → a' = none ∧ c' = 0) :=
  clone_all _ x l a c w (Nat.le_refl _) hT
end Go.Proofs.YtfnfbljijkjkjaaGreat
