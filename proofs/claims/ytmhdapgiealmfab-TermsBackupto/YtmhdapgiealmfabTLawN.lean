/- A range over a function whose iterator ranges over another one: what its caller owes, and what it gets. -/
import Derived.Test.YtmhdapgiealmfabTLaw
namespace Go.Proofs.Ytmhdapgiealmfab
open Go.RowKit Go.Shelf

/-- The contract of an iterator that ranges over another one: a round leaves what is no cells alone from where it began. As to the rest: 'Fact b x W': what it tells of memory when it hands x out (b: the heap's size when it began); 'Kp b x': what a round must keep for it. -/
def SeqN {α : Type} (P : Program) (g : Nat) (lb : Array Value) (encs : α → Array Value) (Fact : Nat → α → World → Prop) (Kp : Nat → α → World → World → Prop) (S Sp : List α → Prop) (N M : Nat) (w : World) : Prop :=
  ∀ (l : Nat) (J Jx : List α → World → Prop) (W : World), Below w.heap.size w W → (∀ s A B, J s A → Mv W.heap.size A B → J s B) → (∀ s A B, Jx s A → Mv W.heap.size A B → Jx s B) → (∀ s A, J s A → s.length ≤ M) →
    (∀ m pre x W1, J pre W1 → Fact W.heap.size x W1 → pre.length < N → Sp (pre ++ [x]) → YieldAt Fence.wide m P l (encs x) W1 fun e W' =>
      (e = .returned (.bool true) ∧ J (pre ++ [x]) W' ∧ Kp W.heap.size x W1 W' ∧ KeepsFrom W.heap.size W1 W') ∨ (e = .returned (.bool false) ∧ Jx (pre ++ [x]) W' ∧ KeepsFrom W.heap.size W1 W')) →
    J [] W →
    Calls P g (#[.func (.yield l) #[] #[]] ++ lb) W fun e W' => (∃ v, e = .returned v) ∧ ((∃ xs, S xs ∧ J xs W') ∨ (∃ pre, Sp pre ∧ Jx pre W'))

theorem range_coreN {α : Type} {P : Program} {ro : Option Nat} {n : Nat} {g : Operand} {ps : Array Tmp} {assign body : Code} {Q : Exit → Act → World → Prop} {a : Act} {w : World}
    {l D b dd : Nat} {mark : List Deferred} {o : Obj} (hent : ∀ fn, ∃ W1, (Instr.enterLoop fn a.tmps ps assign body ro).run P w = .ok (l, mark) W1 ∧ W1.heap.size = b ∧ Below w.heap.size w W1 ∧
      W1.heap[l]? = some (.loop { state := .ready, pending := none, fn, tmps := a.tmps, params := ps, assign, body, defers := dd }) ∧ W1.heap[D]? = some o)
    (hDl : D ≠ l) (ho : o.isCells = false) {B0 : Nat} (hB0 : B0 ≤ w.heap.size) (hlB : w.heap.size ≤ l) (hDB : B0 ≤ D)
    {gf : Nat} {lb : Array Value} (hg : a.eval g = .func (.func gf) #[] lb) (eg : ∀ args w, (callFunc gf args).run P w = .ok (.enter gf args) w)
    {encs : α → Array Value} {Fact : Nat → α → World → Prop} {Kp : Nat → α → World → World → Prop} {S Sp : List α → Prop} {N M : Nat} {w0 : World} (hseq : SeqN P gf lb encs Fact Kp S Sp N M w0) (hb0 : Below w0.heap.size w0 w)
    (hps : ∀ x, (encs x).size = ps.size)
    (hF : ∀ x A B, Fact b x A → Cl w.heap.size A B → Fact b x B) (hKc : ∀ x A B, Cl w.heap.size A B → Kp b x A B) (hKt : ∀ x A B C, Kp b x A B → Kp b x B C → Kp b x A C)
    (I : List α → World → Prop) (Ix : Code → List α → World → Prop) (hI : ∀ s A B, I s A → Mv w.heap.size A B → I s B) (hIx : ∀ c s A B, Ix c s A → Mv w.heap.size A B → Ix c s B) (hIM : ∀ s A, I s A → s.length ≤ M) (h0 : I [] w)
    (Ax : α → Act → World → Prop) (hAx : ∀ x a' A B, Ax x a' A → Cl w.heap.size A B → Ax x a' B)
    (hassign : ∀ (pre : List α) (x : α) (W : World) (K : Act → World → Prop), I pre W → Fact b x W → (∀ a' W', Below W.heap.size W W' → Ax x a' W' → K a' W') →
      ∀ m, assign.wpIn (Fence.wide.inRound l) m P (Exit.then K (fun _ _ _ => False)) { tmps := (ps.zip (encs x)).foldl (fun t (p, v) => t.setIfInBounds p v) a.tmps, defers := [] } W)
    (hbody : ∀ (pre : List α) (x : α) (a' : Act) (W : World), (∃ r, W.heap[l]? = some (.loop r)) → I pre W → Fact b x W → Ax x a' W → pre.length < N → Sp (pre ++ [x]) → ∀ m, body.wpIn (Fence.wide.inRound l) m P (roundLeaves B0 (Kp b) I Ix pre x W) a' W)
    (hdone : ∀ (xs : List α) (W : World), S xs → I xs W → W.heap[D]? = some o → Q .normal { a with defers := mark ++ a.defers } W)
    (hstop : ∀ (c : Code) (pre : List α) (W : World), Sp pre → Ix c pre W → W.heap[D]? = some o → c.wpIn (fen ro) n P Q { a with defers := mark ++ a.defers } W) :
    (Code.rangeFunc g ps assign body).wpIn (fen ro) n P Q a w := by
  refine wpIn_rangeFunc ?_
  intro fn _
  obtain ⟨W1, he, hsz, hbel, hl1, hD1⟩ := hent fn
  obtain ⟨rec, hrec⟩ : ∃ rec : LoopState → Option Code → Loop, rec = fun st pe => { state := st, pending := pe, fn, tmps := a.tmps, params := ps, assign, body, defers := dd } := ⟨_, rfl⟩
  have hL1 : W1.heap[l]? = some (.loop (rec .ready none)) := by rw [hrec]; exact hl1
  have hlb : l < b := by rw [← hsz]; exact (Array.getElem?_eq_some_iff.1 hl1).1
  have hDb : D < b := by rw [← hsz]; exact (Array.getElem?_eq_some_iff.1 hD1).1
  have hwb : w.heap.size ≤ b := by rw [← hsz]; exact hbel.size
  -- the loop's record turns; nothing that its caller or its iterator speaks of does
  have turn : ∀ {W : World} {r : Loop} (r' : Loop), W.heap[l]? = some (.loop r) → Cl w.heap.size W (W.putObj l (.loop r')) := fun r' h => Cl.putObj hlB h rfl _
  have other : ∀ {W : World} (r' : Loop), W.heap[D]? = some o → (W.putObj l (.loop r')).heap[D]? = some o := fun r' h => (World.putObj_heap_other hDl).trans h
  have same : ∀ {W : World} {r : Loop} (r' : Loop), W.heap[l]? = some (.loop r) → (W.putObj l (.loop r')).heap[l]? = some (.loop r') := fun r' h => World.putObj_heap_same (Array.getElem?_eq_some_iff.1 h).1
  refine ⟨l, mark, W1, { target := .fn (.func gf) lb, args := #[.func (.yield l) #[] #[]] }, W1, gf, #[.func (.yield l) #[] #[]] ++ lb, W1, he, ?_, fun _ _ => trivial, ?_, (fun h => by cases h), ?_⟩
  · simp only [resolve, hg]
    simp [go_sem]
  · simp [invoke, go_sem, eg]
  have hcall := hseq l (fun pre W => I pre W ∧ W.heap[l]? = some (.loop (rec .ready none)) ∧ W.heap[D]? = some o)
    (fun pre W => ∃ c, Ix c pre W ∧ W.heap[l]? = some (.loop (rec .done (some c))) ∧ W.heap[D]? = some o) W1 (hb0.trans (hbel.mono hb0.size))
    (fun s A B hs hm => ⟨hI s A B hs.1 (hm.mono (by rw [hsz]; exact hwb)), (hm.below.block l (by rw [hsz]; exact hlb)).trans hs.2.1, (hm.below.block D (by rw [hsz]; exact hDb)).trans hs.2.2⟩)
    (fun s A B ⟨c, hc, h1, h2⟩ hm => ⟨c, hIx c s A B hc (hm.mono (by rw [hsz]; exact hwb)), (hm.below.block l (by rw [hsz]; exact hlb)).trans h1, (hm.below.block D (by rw [hsz]; exact hDb)).trans h2⟩)
    (fun s A hs => hIM s A hs.1) ?_ ⟨hI _ _ _ h0 (Cl.of_below hbel (Nat.le_refl _)).mv, hL1, hD1⟩
  · refine CallsIn.mono (show CallsIn (fen ro) (n - 1) P gf _ W1 _ from (callsIn_wide (n := n - 1)).2 hcall) ?_
    rintro e W2 ⟨⟨v, rfl⟩, (⟨xs, hS, hi, hl, hk⟩ | ⟨pre, hSp, c, hi, hl, hk⟩)⟩
    · refine ⟨none, _, by rw [run_endLoop hl (by rw [hrec]; simp)]; rw [hrec], ?_⟩
      exact hdone xs _ hS (hI _ _ _ hi (turn _ hl).mv) (other _ hk)
    · refine ⟨some c, _, by rw [run_endLoop hl (by rw [hrec]; simp)]; rw [hrec], ?_⟩
      exact hstop c pre _ hSp (hIx _ _ _ _ hi (turn _ hl).mv) (other _ hk)
  · rintro m pre x W ⟨hi, hl, hk⟩ hfact hlen hsp
    rw [hsz] at hfact
    have hy := run_yield (P := P) (args := encs x) hl (by rw [hrec]; exact hps x)
    rw [hrec] at hy
    refine ⟨fn, _, assign, body, hy, roundIn_of_wpIn trivial (hassign pre x W _ hi hfact ?_ m)⟩
    clear hy
    intro a' Wa hba hax
    have hla : Wa.heap[l]? = some (.loop (rec .ready none)) := (hba.block l (Array.getElem?_eq_some_iff.1 hl).1).trans hl
    have hka : Wa.heap[D]? = some o := (hba.block D (Array.getElem?_eq_some_iff.1 hk).1).trans hk
    have hlt : l < W.heap.size := (Array.getElem?_eq_some_iff.1 hl).1
    have hca : Cl w.heap.size W Wa := Cl.of_below hba (by omega)
    refine ⟨_, run_beginRound hla (by rw [hrec]), ?_⟩
    have hcb := turn { rec .ready none with state := .busy } hla
    have hlb2 := same { rec .ready none with state := .busy } hla
    have hkb := other { rec .ready none with state := .busy } hka
    refine wpIn_mono (hbody pre x a' _ ⟨_, hlb2⟩ (hI _ _ _ hi (hca.mv.trans hcb.mv)) (hF _ _ _ hfact (hca.trans hcb)) (hAx _ _ _ _ hax hcb) hlen hsp m) ?_
    have far : ∀ {W3 W4 : World}, KeepsFrom B0 (Wa.putObj l (.loop { rec .ready none with state := .busy })) W3 → W3.heap.size ≤ W4.heap.size → (∀ k, k ≠ l → W4.heap[k]? = W3.heap[k]?) → KeepsFrom b W W4 := fun hk3 hs4 h4 => ⟨Nat.le_trans (Nat.le_trans hba.size (by have := hk3.size; simpa using this)) hs4, fun k o hbk ho' hc => by
      have hkl : k ≠ l := by omega
      refine (h4 k hkl).trans (hk3.same k o (by omega) ?_ hc)
      exact (World.putObj_heap_other hkl).trans ((hba.block k (Array.getElem?_eq_some_iff.1 ho').1).trans ho')⟩
    have ends : ∀ (jump : Option Code) (W3 : World), KeepsFrom B0 (Wa.putObj l (.loop { rec .ready none with state := .busy })) W3 →
        W3.heap[l]? = some (.loop { rec .ready none with state := .busy }) ∧ W3.heap[D]? = some o ∧
        (Instr.endRound l jump).run P W3 = .ok (.bool jump.isNone) (W3.putObj l (.loop (rec (if jump.isNone then .ready else .done) jump))) := fun jump W3 hk3 => by
      have hl3 := hk3.same l _ (by omega) hlb2 rfl
      refine ⟨hl3, hk3.same D _ hDB hkb ho, ?_⟩
      have := run_endRound (P := P) jump hl3
      rw [hrec] at this ⊢
      exact this
    rintro e a3 W3 hp
    cases e with
    | normal =>
      obtain ⟨hk3, hkp3, hi3⟩ := hp
      obtain ⟨hl3, hD3, hr3⟩ := ends none W3 hk3
      refine ⟨_, _, hr3, .inl ⟨rfl, ⟨hI _ _ _ hi3 (turn _ hl3).mv, same _ hl3, other _ hD3⟩, ?_, by rw [hsz]; exact far hk3 (by simp) (fun k hk => World.putObj_heap_other hk)⟩⟩
      rw [hsz]
      exact hKt _ _ _ _ (hKc _ _ _ (hca.trans hcb)) (hKt _ _ _ _ hkp3 (hKc _ _ _ (turn _ hl3)))
    | ret =>
      obtain ⟨hk3, hi3⟩ := hp
      obtain ⟨hl3, hD3, hr3⟩ := ends (some .ret) W3 hk3
      exact ⟨_, _, hr3, .inr ⟨rfl, ⟨.ret, hIx _ _ _ _ hi3 (turn _ hl3).mv, same _ hl3, other _ hD3⟩, by rw [hsz]; exact far hk3 (by simp) (fun k hk => World.putObj_heap_other hk)⟩⟩
    | exit id =>
      obtain ⟨hk3, hi3⟩ := hp
      obtain ⟨hl3, hD3, hr3⟩ := ends (some (.exit id)) W3 hk3
      exact ⟨_, _, hr3, .inr ⟨rfl, ⟨.exit id, hIx _ _ _ _ hi3 (turn _ hl3).mv, same _ hl3, other _ hD3⟩, by rw [hsz]; exact far hk3 (by simp) (fun k hk => World.putObj_heap_other hk)⟩⟩
    | goto t =>
      obtain ⟨hk3, hi3⟩ := hp
      obtain ⟨hl3, hD3, hr3⟩ := ends (some (.goto t)) W3 hk3
      exact ⟨_, _, hr3, .inr ⟨rfl, ⟨.goto t, hIx _ _ _ _ hi3 (turn _ hl3).mv, same _ hl3, other _ hD3⟩, by rw [hsz]; exact far hk3 (by simp) (fun k hk => World.putObj_heap_other hk)⟩⟩
    | panic ch => exact hp.elim
    | outgrown => exact hp.elim

/-- The law at a loop that stands in no round. -/
theorem range_ownN {α : Type} {P : Program} {n : Nat} {g : Operand} {ps : Array Tmp} {assign body : Code} {Q : Exit → Act → World → Prop} {a : Act} {w : World}
    {gf : Nat} {lb : Array Value} (hg : a.eval g = .func (.func gf) #[] lb) (eg : ∀ args w, (callFunc gf args).run P w = .ok (.enter gf args) w)
    {encs : α → Array Value} {Fact : Nat → α → World → Prop} {Kp : Nat → α → World → World → Prop} {S Sp : List α → Prop} {N M : Nat} {w0 : World} (hseq : SeqN P gf lb encs Fact Kp S Sp N M w0) (hb0 : Below w0.heap.size w0 w)
    (hps : ∀ x, (encs x).size = ps.size)
    (hF : ∀ x A B, Fact (w.heap.size + 2) x A → Cl w.heap.size A B → Fact (w.heap.size + 2) x B) (hKc : ∀ x A B, Cl w.heap.size A B → Kp (w.heap.size + 2) x A B) (hKt : ∀ x A B C, Kp (w.heap.size + 2) x A B → Kp (w.heap.size + 2) x B C → Kp (w.heap.size + 2) x A C)
    (I : List α → World → Prop) (Ix : Code → List α → World → Prop) (hI : ∀ s A B, I s A → Mv w.heap.size A B → I s B) (hIx : ∀ c s A B, Ix c s A → Mv w.heap.size A B → Ix c s B) (hIM : ∀ s A, I s A → s.length ≤ M) (h0 : I [] w)
    (Ax : α → Act → World → Prop) (hAx : ∀ x a' A B, Ax x a' A → Cl w.heap.size A B → Ax x a' B)
    (hassign : ∀ (pre : List α) (x : α) (W : World) (K : Act → World → Prop), I pre W → Fact (w.heap.size + 2) x W → (∀ a' W', Below W.heap.size W W' → Ax x a' W' → K a' W') →
      ∀ m, assign.wpIn (Fence.wide.inRound (w.heap.size + 1)) m P (Exit.then K (fun _ _ _ => False)) { tmps := (ps.zip (encs x)).foldl (fun t (p, v) => t.setIfInBounds p v) a.tmps, defers := [] } W)
    (hbody : ∀ (pre : List α) (x : α) (a' : Act) (W : World), (∃ r, W.heap[w.heap.size + 1]? = some (.loop r)) → I pre W → Fact (w.heap.size + 2) x W → Ax x a' W → pre.length < N → Sp (pre ++ [x]) →
      ∀ m, body.wpIn (Fence.wide.inRound (w.heap.size + 1)) m P (roundLeaves w.heap.size (Kp (w.heap.size + 2)) I Ix pre x W) a' W)
    (hdone : ∀ (xs : List α) (W : World), S xs → I xs W → W.heap[w.heap.size]? = some (.deferred (some [])) → Q .normal { a with defers := { target := .collected w.heap.size, args := #[] } :: a.defers } W)
    (hstop : ∀ (c : Code) (pre : List α) (W : World), Sp pre → Ix c pre W → W.heap[w.heap.size]? = some (.deferred (some [])) → c.wpIn Fence.wide n P Q { a with defers := { target := .collected w.heap.size, args := #[] } :: a.defers } W) :
    (Code.rangeFunc g ps assign body).wpIn Fence.wide n P Q a w :=
  range_coreN (ro := none) (l := w.heap.size + 1) (D := w.heap.size) (b := w.heap.size + 2) (dd := w.heap.size) (mark := [{ target := .collected w.heap.size, args := #[] }]) (o := .deferred (some [])) (B0 := w.heap.size)
    (fun fn => ⟨_, run_enterLoop_outer fn _ _ _ _, by simp, ((Below.refl _ w).alloc (Nat.le_refl _) _).alloc (by simp) _,
      by have := World.alloc_heap_new (w.alloc (.deferred (some []))) (.loop { state := .ready, pending := none, fn, tmps := a.tmps, params := ps, assign, body, defers := w.heap.size }); rwa [World.size_alloc] at this,
      (Below.heap_alloc _ _ _ (by simp)).trans (World.alloc_heap_new w _)⟩)
    (by omega) rfl (Nat.le_refl _) (by omega) (Nat.le_refl _) hg eg hseq hb0 hps hF hKc hKt I Ix hI hIx hIM h0 Ax hAx hassign hbody hdone hstop

/-- The law at a loop that stands in a round of another one. -/
theorem range_inN {α : Type} {P : Program} {n : Nat} {g : Operand} {ps : Array Tmp} {assign body : Code} {Q : Exit → Act → World → Prop} {a : Act} {w : World}
    {l₀ : Nat} {r₀ : Loop} (hl₀ : w.heap[l₀]? = some (.loop r₀)) {B0 : Nat} (hB0 : B0 ≤ w.heap.size) (hBl : B0 ≤ l₀)
    {gf : Nat} {lb : Array Value} (hg : a.eval g = .func (.func gf) #[] lb) (eg : ∀ args w, (callFunc gf args).run P w = .ok (.enter gf args) w)
    {encs : α → Array Value} {Fact : Nat → α → World → Prop} {Kp : Nat → α → World → World → Prop} {S Sp : List α → Prop} {N M : Nat} {w0 : World} (hseq : SeqN P gf lb encs Fact Kp S Sp N M w0) (hb0 : Below w0.heap.size w0 w)
    (hps : ∀ x, (encs x).size = ps.size)
    (hF : ∀ x A B, Fact (w.heap.size + 1) x A → Cl w.heap.size A B → Fact (w.heap.size + 1) x B) (hKc : ∀ x A B, Cl w.heap.size A B → Kp (w.heap.size + 1) x A B) (hKt : ∀ x A B C, Kp (w.heap.size + 1) x A B → Kp (w.heap.size + 1) x B C → Kp (w.heap.size + 1) x A C)
    (I : List α → World → Prop) (Ix : Code → List α → World → Prop) (hI : ∀ s A B, I s A → Mv w.heap.size A B → I s B) (hIx : ∀ c s A B, Ix c s A → Mv w.heap.size A B → Ix c s B) (hIM : ∀ s A, I s A → s.length ≤ M) (h0 : I [] w)
    (Ax : α → Act → World → Prop) (hAx : ∀ x a' A B, Ax x a' A → Cl w.heap.size A B → Ax x a' B)
    (hassign : ∀ (pre : List α) (x : α) (W : World) (K : Act → World → Prop), I pre W → Fact (w.heap.size + 1) x W → (∀ a' W', Below W.heap.size W W' → Ax x a' W' → K a' W') →
      ∀ m, assign.wpIn (Fence.wide.inRound w.heap.size) m P (Exit.then K (fun _ _ _ => False)) { tmps := (ps.zip (encs x)).foldl (fun t (p, v) => t.setIfInBounds p v) a.tmps, defers := [] } W)
    (hbody : ∀ (pre : List α) (x : α) (a' : Act) (W : World), (∃ r, W.heap[w.heap.size]? = some (.loop r)) → I pre W → Fact (w.heap.size + 1) x W → Ax x a' W → pre.length < N → Sp (pre ++ [x]) →
      ∀ m, body.wpIn (Fence.wide.inRound w.heap.size) m P (roundLeaves B0 (Kp (w.heap.size + 1)) I Ix pre x W) a' W)
    (hdone : ∀ (xs : List α) (W : World), S xs → I xs W → W.heap[l₀]? = some (.loop r₀) → Q .normal a W)
    (hstop : ∀ (c : Code) (pre : List α) (W : World), Sp pre → Ix c pre W → W.heap[l₀]? = some (.loop r₀) → c.wpIn (Fence.wide.inRound l₀) n P Q a W) :
    (Code.rangeFunc g ps assign body).wpIn (Fence.wide.inRound l₀) n P Q a w :=
  range_coreN (ro := some l₀) (l := w.heap.size) (D := l₀) (b := w.heap.size + 1) (dd := r₀.defers) (mark := []) (o := .loop r₀) (B0 := B0)
    (fun fn => ⟨_, run_enterLoop_inner hl₀ fn _ _ _ _, by simp, (Below.refl _ w).alloc (Nat.le_refl _) _, World.alloc_heap_new w _,
      (Below.heap_alloc _ _ _ (Array.getElem?_eq_some_iff.1 hl₀).1).trans hl₀⟩)
    (fun e => by have := (Array.getElem?_eq_some_iff.1 hl₀).1; omega) rfl hB0 (Nat.le_refl _) hBl hg eg hseq hb0 hps hF hKc hKt I Ix hI hIx hIM h0 Ax hAx hassign hbody hdone hstop
end Go.Proofs.Ytmhdapgiealmfab
