/- A statement that draws its order and only reads, within a round of a range over a function. -/
import Derived.Sort.BigQuietIn
import Derived.Test.YtlbmamkkbpjafabBBwd
namespace Go.Proofs.Ytlbmamkkbpjafab
open Go.RowKit Go.Shelf

variable {F : Fence} {n : Nat} {P : Program} {ops : Array Oper} {C : World → Prop}
def noDefer (l : List Oper) : Bool := l.all fun o => match o.op with | .defer _ => false | _ => true
theorem noDefer_at {l : List Oper} (h : noDefer l = true) {o : Oper} (ho : o ∈ l) : ∀ c, o.op ≠ .defer c := fun c e => by
  have := List.all_eq_true.1 h o ho
  rw [e] at this
  cases this
theorem op_round {lp : Nat} {o : Oper} {a : Act} {K : Act → Prop} {K' : Act → World → Prop} {Q' : Exit → Act → World → Prop} {w : World} (hro : F.round = some lp) (hd : ∀ c, o.op ≠ .defer c) (hw : C w) (h : ∀ a w', C w' → K a → K' a w')
    (ha : o.askedIn F P a C) (hq : o.quietIn F n P a C K) : o.wpIn F n P a w K' Q' := by
  obtain ⟨v, hv, hn⟩ := hq
  have hv' := hv w hw
  refine ⟨ha w hw, ?_⟩
  rw [hro, Oper.semAt_some lp _ o hd]
  unfold Oper.quietAtIn at hv'
  revert hv'
  generalize (execOp a.eval o).run P w = res
  intro hv'
  match res, hv' with
  | .ok (.value _) _, ⟨e1, e2⟩ => subst e1 e2; exact h _ _ hw hn
  | .ok .skip _, ⟨e1, e2⟩ => subst e1 e2; exact h _ _ hw hn
  | .ok (.enter f args) _, ⟨e1, hdp, hc⟩ => subst e1; exact ⟨hdp, hc.mono fun e w'' ⟨he, hw''⟩ => by subst he; exact h _ _ hw'' hn⟩
theorem any_round {lp : Nat} {md : Region.Mode} {Q : Act → Prop} {Q' : Exit → Act → World → Prop} (hro : F.round = some lp) (hnd : noDefer ops.toList = true) (hQ : ∀ a w, C w → Q a → Q' .normal a w) : ∀ (fuel : Nat) (listed : Array Bool) (a : Act) (w : World), C w →
    wpAnyQIn F n P md ops C Q fuel listed a → wpAnyIn F n P md ops Q' fuel listed a w
  | 0, _, _, _, hw, h => ⟨h.1, hQ _ _ hw h.2⟩
  | fuel + 1, listed, a, w, hw, h => ⟨fun h0 => hQ _ _ hw (h.1 h0), fun i hi => by
    have ih := fun a' w' (hw' : C w') => any_round (md := md) hro hnd hQ fuel (listed.setIfInBounds i true) a' w' hw'
    have hq := h.2 i hi
    unfold qOpIn at hq
    unfold wpOpIn
    cases ho : ops[i]? with
    | none => simp only [ho] at hq ⊢; exact ih _ _ hw hq
    | some o =>
      simp only [ho] at hq ⊢
      obtain ⟨ha, hq⟩ := hq
      have hmem : o ∈ ops.toList := by
        obtain ⟨hlt, he⟩ := Array.getElem?_eq_some_iff.1 ho
        rw [← he]
        exact Array.mem_toList_iff.2 (Array.getElem_mem hlt)
      by_cases hwn : Region.wanted o (yielded ops a.tmps) = true
      · rw [if_pos hwn] at hq ⊢
        exact op_round hro (noDefer_at hnd hmem) hw ih ha hq
      · rw [if_neg hwn] at hq ⊢
        exact ⟨ha w hw, ih _ _ hw hq⟩⟩
/-- One walk, in the order in which the operations are written, serves every order. -/
theorem quiet_round {lp id : Nat} {Q : Exit → Act → World → Prop} {a : Act} {w : World} {l : List Oper} (hro : F.round = some lp) (hm : P.follows .mixedOrders = true) (hB : Region.lexB .any l.toArray = true) (hnd : noDefer l = true)
    (h : wpQuietIn F n P l.toArray (fun w' => ∃ n, w' = w.drewN n) (fun a' => ∀ w', (∃ n, w' = w.drewN n) → Q .normal a' w') l a) : (Code.region id l.toArray true).wpIn F n P Q a w := by
  simp only [Region.lexB, Bool.and_eq_true] at hB
  refine wpIn_region_any hm (any_round (C := fun w' => ∃ n, w' = w.drewN n) (Q := fun a' => ∀ w', (∃ n, w' = w.drewN n) → Q .normal a' w') hro (by simpa using hnd) (fun _ w' hw' h => h w' hw') _ _ _ _ ⟨1, rfl⟩ ?_)
  have := wpAnyQIn_lex (F := F) (n := n) (C := fun w' => ∃ n, w' = w.drewN n) (md := .any) hB.1 l 0 (Array.replicate l.toArray.size false) a (by simp) (by simpa using hB.2) h
  simpa using this
end Go.Proofs.Ytlbmamkkbpjafab
