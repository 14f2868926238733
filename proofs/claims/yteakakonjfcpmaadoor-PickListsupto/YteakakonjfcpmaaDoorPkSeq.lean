/- What may be gone through: All's function values; a range within a round. -/
import Derived.Test.YteakakonjfcpmaaDoorPkSpX
import Derived.Test.YteakakonjfcpmaaDoorPkRAll
import Derived.Test.YteakakonjfcpmaaDoorPkKept
namespace Go.Proofs.YteakakonjfcpmaaDoor
open Go.RowKit Go.Shelf

attribute [local go_sem] Oper.semAt_some

/-- A function value that hands out these masks, as long as some blocks stay as they are. -/
structure SeqOk (X : Nat → Prop) (Keep : World → Prop) (L : List Nat) (gf : Nat) (lb : Array Value) : Prop where
  en : ∀ args w, (callFunc gf args).run Tryd.prog w = .ok (.enter gf args) w
  same : ∀ W W' : World, Keep W → (∀ b, X b → W'.heap[b]? = W.heap[b]?) → Keep W'
  go : ∀ (m lp : Nat) (J : Nat → World → Prop) (Jx : World → Prop) (W0 : World), (∀ k W W', J k W → Fr (fun b => W0.heap.size ≤ b ∧ b < W0.heap.size + 4) W W' → J k W') → (∀ k W, J k W → Keep W) → (∀ b, X b → b < W0.heap.size) →
    (∀ mm k W (M : Nat), L[k]? = some M → W0.heap.size + 4 ≤ W.heap.size → J k W → YieldAt Fence.wide mm Tryd.prog lp #[.int .u32 (M : Int)] W fun e W' => (∀ b, W0.heap.size ≤ b → b < W0.heap.size + 4 → W'.heap[b]? = W.heap[b]?) ∧ ((e = .returned (.bool true) ∧ J (k + 1) W') ∨ (e = .returned (.bool false) ∧ Jx W'))) →
    J 0 W0 → CallsIn Fence.wide (m + 4) Tryd.prog gf (#[.func (.yield lp) #[] #[]] ++ lb) W0 fun e W' => (∃ v, e = .returned v) ∧ (J L.length W' ∨ Jx W')
set_option maxRecDepth 100000 in
theorem none_in (n lp : Nat) (W0 : World) : CallsIn Fence.wide n Tryd.prog 37 #[.func (.yield lp) #[] #[]] W0 fun e W' => (∃ v, e = .returned v) ∧ W' = W0 := by
  refine callsIn_of_wp Tryd.func37 rfl trivial ?_ rfl
  simp only [Tryd.ntmps37, List.size_toArray, List.length_cons, List.length_nil, Nat.reduceAdd, Nat.reduceSub, Array.replicate_succ, Array.replicate_zero, List.push_toArray, List.append_toArray, List.nil_append, List.cons_append]
  gi_wp2
  refine bodyPost_end (results_none rfl _ _ _) rfl ?_
  exact ⟨⟨_, rfl⟩, rfl⟩
theorem seq_none : SeqOk (fun _ => False) (fun _ => True) [] 37 #[] where
  en := enters_of Tryd.func37 (by kernel_rfl) rfl
  same := fun _ _ _ _ => trivial
  go := fun m lp J Jx W0 _ _ _ _ h0 => (none_in (m + 4) lp W0).mono fun e W' ⟨h1, h2⟩ => ⟨h1, .inl (by rw [h2]; exact h0)⟩
theorem Tab.same {W W' : World} (h : Tab W) (hs : W'.heap[0]? = W.heap[0]?) : Tab W' := fun i hi => (cell_same (a := ⟨0, i, none⟩) hs).trans (h i hi)
theorem seq_all {lo hi br bw : Nat} {pr : Option Addr} {cr : Nat} {rs : List (List Int)} {pw : Option Addr} {cw : Nat} {ws : List Int} (hO : RowsOk rs ws.length) : SeqOk (fun b => b = 0 ∨ (lo ≤ b ∧ b < hi)) (fun W => AllAt (fun b => lo ≤ b ∧ b < hi) W br bw pr cr rs pw cw ws ∧ Tab W) (fitL rs ws) 38 #[.pointer (some ⟨bw, 0, none⟩), .pointer (some ⟨br, 0, none⟩)] where
  en := enters_of Tryd.func38 (by kernel_rfl) rfl
  same := fun _ _ h hs => ⟨h.1.same (fun b hb => hs b (.inr hb)), h.2.same (hs 0 (.inl rfl))⟩
  go := fun m lp J Jx W0 hst hk hX hY h0 => all_in m lp bw br (fun b => lo ≤ b ∧ b < hi) pr cr rs pw cw ws hO J Jx W0 hst hk (fun b hb => hX b (.inr hb)) hY h0
/-- A range within a round. -/
theorem range_inner {F : Fence} {n : Nat} {P : Program} {g : Operand} {ps : Array Tmp} {assign body : Code} {Q : Exit → Act → World → Prop} {a : Act} {w : World} {l0 : Nat} {r0 : Loop}
    (hro : F.round = some l0) (hr0 : w.heap[l0]? = some (.loop r0)) (h1 : F.depth.isSome = true → 1 ≤ n) {gf : Nat} {lb : Array Value} (hg : a.eval g = .func (.func gf) #[] lb) (hFg : F.fn gf) (eg : ∀ args w, (callFunc gf args).run P w = .ok (.enter gf args) w)
    (hcall : ∀ r : Loop, r.state = .ready → r.pending = none → r.tmps = a.tmps → r.params = ps → r.assign = assign → r.body = body → F.fn r.fn →
      CallsIn F (n - 1) P gf (#[.func (.yield w.heap.size) #[] #[]] ++ lb) (w.alloc (.loop r)) fun e W => (∃ v, e = .returned v) ∧
        ((W.heap[w.heap.size]? = some (.loop r) ∧ Q .normal a (W.putObj w.heap.size (.loop { r with state := .exhausted }))) ∨
         (∃ c, W.heap[w.heap.size]? = some (.loop { r with state := .done, pending := some c }) ∧ c.wpIn F n P Q a (W.putObj w.heap.size (.loop { r with state := .exhausted, pending := some c }))))) :
    (Code.rangeFunc g ps assign body).wpIn F n P Q a w := by
  refine wpIn_rangeFunc ?_
  intro fn hfn
  rw [hro]
  let r : Loop := { state := .ready, pending := none, fn, tmps := a.tmps, params := ps, assign, body, defers := r0.defers }
  let W1 : World := w.alloc (.loop r)
  refine ⟨w.heap.size, [], W1, { target := .fn (.func gf) lb, args := #[.func (.yield w.heap.size) #[] #[]] }, W1, gf,
    #[.func (.yield w.heap.size) #[] #[]] ++ lb, W1, run_enterLoop_inner hr0 fn a.tmps ps assign body, ?_, ?_, ?_, h1, ?_⟩
  · simp only [resolve, hg]
    simp [go_sem]
  · intro f' hf'; simp [Target.leads] at hf'; subst hf'; exact hFg
  · simp [invoke, go_sem, eg]
  · refine (hcall r rfl rfl rfl rfl rfl rfl hfn).mono ?_
    rintro e W ⟨⟨v, rfl⟩, (⟨hl, hq⟩ | ⟨c, hl, hq⟩)⟩
    · exact ⟨none, _, run_endLoop hl (by simp), hq⟩
    · exact ⟨some c, _, run_endLoop hl (by simp), hq⟩
end Go.Proofs.YteakakonjfcpmaaDoor
