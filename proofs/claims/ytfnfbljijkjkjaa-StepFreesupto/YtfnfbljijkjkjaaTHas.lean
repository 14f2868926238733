/- What Has of package terms answers of any term and name. -/
import Derived.Test.YtfnfbljijkjkjaaTSize
import Derived.Laws.ResultCell
namespace Go.Proofs.Ytfnfbljijkjkjaa
open Go.RowKit Go.Shelf Go.Deep

attribute [local go_sem] Oper.semAt_some

theorem results_cell1 {fn : Func} {p : Tmp} {ty : TypeId} (h : fn.results = #[.cell p ty]) (tmps : Array Value) (P : Program) (w : World) :
    (results fn tmps).run P w = ((asAddr (tmps.getD p undef)).run P w).andThen fun a w₁ => (loadVar ty a).run P w₁ := by
  simp only [results, h]
  simp [Sem.run_bind, Result.andThen]
theorem boxed_putObj {W : World} {B D : Nat} {t : TypeId} {v : Value} (h : Boxed W B t v) {o : Obj} (hD : W.heap[D]? = some o) (ho : o.isCells = false) (o' : Obj) : Boxed (W.putObj D o') B t v :=
  (Cl.putObj (B := 0) (Nat.zero_le _) hD ho o').cells _ _ _ _ h

theorem results_bool {fn : Func} {p : Tmp} (h : fn.results = #[.cell p 4]) {tmps : Array Value} {w : World} {B : Nat} {v : Value} (hp : tmps.getD p undef = .pointer (some ⟨B, 0, none⟩)) (hb : Boxed w B 4 v) : (results fn tmps).run Try.prog w = .ok v w := by
  have hc := hb.cell
  rw [results_cell1 h, hp]
  simp [go_sem, hc]

/-- Does a variable of this name stand at one of these places? -/
def hasP (nm : ByteArray) (ps : List Pl) : Bool := ps.any fun p => p.2.1.1.toList == nm.toList
def hasT (nm : ByteArray) (x : ByteArray × Int) (l : Fo) : Bool := !noName nm && hasP nm (placesT [] x l)

set_option maxRecDepth 100000 in
set_option maxHeartbeats 2000000 in
theorem has_any (x : ByteArray × Int) (l : Fo) (a : Option Addr) (c : Nat) (nm : ByteArray) (w : World) (hT : TmAt w x a c l) (hM : (nodesF l + 2) * 8 ≤ 140737488355328) :
    Calls Try.prog 64 #[.agg #[.string x.1, .int .i64 x.2, .slice a (lenF l) c], .string nm] w fun e w' => e = .returned (.bool (hasT nm x l)) ∧ Below w.heap.size w w' := by
  cases hnm : nm.toList.isEmpty
  · have hval : hasT nm x l = hasP nm (placesT [] x l) := by simp [hasT, noName, hnm]
    rw [hval]
    refine (callsIn_wide (n := 6)).1 ?_
    have h1 : 1 ≤ 6 := by omega
    refine callsIn_of_wp_marks Try.func64 rfl trivial ?_ rfl
    simp only [Try.ntmps64, List.size_toArray, List.length_cons, List.length_nil, Nat.reduceAdd, Nat.reduceSub, Array.replicate_succ, Array.replicate_zero, List.push_toArray, List.append_toArray, List.nil_append, List.cons_append]
    gi_wp2_with fail
    refine ⟨trivial, ?_⟩
    refine (callsIn_wide.2 (places_any x a (lenF l) c _)).mono ?_
    rintro e w' ⟨rfl, rfl⟩
    gi_wp2
    have bN := ((Boxed.new (w.alloc (.cells #[.string x.1, .int .i64 x.2, .slice a (lenF l) c] 26)) 9 (.string nm)).alloc (.cells #[.bool false] 4)).alloc (.cells #[.string x.1, .int .i64 x.2, .slice a (lenF l) c] 26)
    have bR := (Boxed.new ((w.alloc (.cells #[.string x.1, .int .i64 x.2, .slice a (lenF l) c] 26)).alloc (.cells #[.string nm] 9)) 4 (.bool false)).alloc (.cells #[.string x.1, .int .i64 x.2, .slice a (lenF l) c] 26)
    have bT := TBox.new (((w.alloc (.cells #[.string x.1, .int .i64 x.2, .slice a (lenF l) c] 26)).alloc (.cells #[.string nm] 9)).alloc (.cells #[.bool false] 4)) x a (lenF l) c
    simp only [World.size_alloc] at bN bR bT
    have hB0 : Below w.heap.size w ((((w.alloc (.cells #[.string x.1, .int .i64 x.2, .slice a (lenF l) c] 26)).alloc (.cells #[.string nm] 9)).alloc (.cells #[.bool false] 4)).alloc (.cells #[.string x.1, .int .i64 x.2, .slice a (lenF l) c] 26)) := ((((Below.refl _ w).alloc (Nat.le_refl _) _).alloc (by simp) _).alloc (by simp; omega) _).alloc (by simp; omega) _
    have hsz : ((((w.alloc (.cells #[.string x.1, .int .i64 x.2, .slice a (lenF l) c] 26)).alloc (.cells #[.string nm] 9)).alloc (.cells #[.bool false] 4)).alloc (.cells #[.string x.1, .int .i64 x.2, .slice a (lenF l) c] 26)).heap.size = w.heap.size + 4 := by simp
    obtain ⟨W0, hW0⟩ : ∃ W0, (((w.alloc (.cells #[.string x.1, .int .i64 x.2, .slice a (lenF l) c] 26)).alloc (.cells #[.string nm] 9)).alloc (.cells #[.bool false] 4)).alloc (.cells #[.string x.1, .int .i64 x.2, .slice a (lenF l) c] 26) = W0 := ⟨_, rfl⟩
    rw [hW0] at bN bR bT hB0 hsz ⊢
    clear hW0
    refine range_own (gf := 95) (lb := #[.pointer (some ⟨w.heap.size + 1 + 1 + 1, 0, none⟩)]) rfl (enters_of Try.func95 (by kernel_rfl) rfl)
      (places1_seq w W0 (nodesF l + 1) (w.heap.size + 1 + 1 + 1) x l a c hT bT hB0 (by omega)) (Below.refl _ _) (fun _ => rfl)
      (fun _ _ _ h hc => h.cl hc) (fun _ _ _ hc => Leaves.of_cl hc (by omega)) (fun _ _ _ _ h k => h.trans k)
      (fun pre W => ((Boxed W (w.heap.size + 1) 9 (.string nm) ∧ Boxed W (w.heap.size + 1 + 1) 4 (.bool false)) ∧ Below w.heap.size w W) ∧ pre.length ≤ nodesF l + 1 ∧ hasP nm (pre.map El.info) = false)
      (fun c pre W => c = .ret ∧ (Boxed W (w.heap.size + 1 + 1) 4 (.bool true) ∧ Below w.heap.size w W) ∧ hasP nm (pre.map El.info) = true)
      (fun _ _ _ h hm => ⟨⟨⟨boxed_mv h.1.1.1 hm (by omega), boxed_mv h.1.1.2 hm (by omega)⟩, below_mv h.1.2 hm (by omega)⟩, h.2⟩)
      (fun _ _ _ _ h hm => ⟨h.1, ⟨boxed_mv h.2.1.1 hm (by omega), below_mv h.2.1.2 hm (by omega)⟩, h.2.2⟩) (fun _ _ h => h.2.1) ⟨⟨⟨bN, bR⟩, hB0⟩, by simp, rfl⟩
      (fun e a' W => ∃ Bx, TBox W Bx e.x e.a (lenF e.l) e.c ∧ a' = { tmps := #[.agg #[.string x.1, .int .i64 x.2, .slice a (lenF l) c], .string nm, .pointer (some ⟨w.heap.size, 0, none⟩), .pointer (some ⟨w.heap.size + 1, 0, none⟩), .pointer (some ⟨w.heap.size + 1 + 1, 0, none⟩), undef, .pointer (some ⟨Bx, 0, none⟩), .string nm, .bool false, .agg #[.string x.1, .int .i64 x.2, .slice a (lenF l) c], .func (.func 95) #[] #[.pointer (some ⟨w.heap.size + 1 + 1 + 1, 0, none⟩)], e.pv, .agg #[.string e.x.1, .int .i64 e.x.2, .slice e.a (lenF e.l) e.c], undef, undef, undef, undef], defers := [] })
      (fun _ _ _ _ ⟨Bx, h, k⟩ hc => ⟨Bx, h.cl hc, k⟩) ?assign ?body ?done ?stop
    case assign =>
      rintro pre e W K _ _ hK m
      simp only [El.encs]
      gi_wp2
      exact hK _ _ ((Below.refl _ _).alloc (Nat.le_refl _) _) ⟨_, TBox.new W e.x e.a (lenF e.l) e.c, by simp⟩
    case body =>
      rintro pre e a' W _ ⟨⟨⟨bn, br⟩, hB⟩, hl, hno⟩ hF ⟨Bx, bx, rfl⟩ hlt m
      have c0 := bx.c0
      have cn := bn.cell
      have cr := br.cell
      have fr := br.frozen
      cases ht : (e.x.1.toList == nm.toList)
      · gi_wp2
        refine ⟨KeepsFrom.refl _ _, Leaves.of_cl (Cl.of_below (Below.refl _ _) (Nat.le_refl _)) (by have := hB.size; omega), ⟨⟨bn, br⟩, hB⟩, by simp; omega, ?_⟩
        simp only [hasP, List.map_append, List.any_append] at hno ⊢
        simp [hno, El.info, ht]
      · gi_wp2
        refine ⟨(KeepsOthers.setCell _ _ _).from _, rfl, ⟨br.set _, hB.setCell (p := ⟨w.heap.size + 1 + 1, 0, none⟩) (by show _ ≤ w.heap.size + 1 + 1; omega) _⟩, ?_⟩
        simp only [hasP, List.map_append, List.any_append]
        simp [El.info, ht]
    case done =>
      rintro ys W hS ⟨⟨⟨bn, br⟩, hB⟩, _, hno⟩ hK
      have cr := br.cell
      have fr := br.frozen
      rw [hS] at hno
      gi_wp2
      have hK2 := (KeepsOthers.setCell W ⟨w.heap.size + 1 + 1, 0, none⟩ (.bool false)).same _ _ hK rfl
      refine ⟨by simp, .inl ⟨_, _, rfl, run_takeDeferred hK2, ?_⟩⟩
      exact ⟨_, results_bool rfl rfl (boxed_putObj (br.set _) hK2 rfl _), by rw [hno], (hB.setCell (p := ⟨w.heap.size + 1 + 1, 0, none⟩) (by show _ ≤ w.heap.size + 1 + 1; omega) _).trans (below_putObj _ (by omega) _)⟩
    case stop =>
      rintro c pre W ⟨t, ht⟩ ⟨rfl, ⟨br, hB⟩, hyes⟩ hK
      gi_wp2
      refine ⟨by simp, .inl ⟨_, _, rfl, run_takeDeferred hK, ?_⟩⟩
      refine ⟨_, results_bool rfl rfl (boxed_putObj br hK rfl _), ?_, hB.trans (below_putObj _ (by omega) _)⟩
      rw [← ht]
      unfold hasP at hyes ⊢
      rw [List.any_append, hyes, Bool.true_or]
  · have hval : hasT nm x l = false := by simp [hasT, noName, hnm]
    rw [hval]
    go_enter Try.func64, Try.ntmps64
    go_wp2
    refine bodyPost_ret (results_bool rfl rfl (by have := Boxed.new ((w.alloc (.cells #[.string x.1, .int .i64 x.2, .slice a (lenF l) c] 26)).alloc (.cells #[.string nm] 9)) 4 (.bool false); simpa only [World.size_alloc] using this)) rfl ?_
    exact ⟨rfl, ((((Below.refl _ w).alloc (Nat.le_refl _) _).alloc (by simp) _).alloc (by simp; omega) _)⟩
end Go.Proofs.Ytfnfbljijkjkjaa
