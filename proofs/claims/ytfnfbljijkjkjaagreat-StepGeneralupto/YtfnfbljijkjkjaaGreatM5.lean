/- Texts laid together: RPl, TSizeB, LBase. -/
import Derived.Deep.AppendLies
import Derived.Deep.AppendSrc
import Derived.Test.YtfnfbljijkjkjaaGreatM4
/- What the document's Plain makes of a signature. -/
namespace Go.Proofs.YtfnfbljijkjkjaaGreat
open Go.RowKit

def Sym.cells (x : Sym) : List Value := [.string x.name, .int .i64 x.kind, .int .i64 x.arity, .string x.unit]
def symCells (l : List Sym) : List Value := l.flatMap Sym.cells

theorem symCells_nil : symCells [] = [] := rfl
theorem symCells_cons (x : Sym) (l : List Sym) : symCells (x :: l) = .string x.name :: .int .i64 x.kind :: .int .i64 x.arity :: .string x.unit :: symCells l := rfl
theorem symCells_append (l m : List Sym) : symCells (l ++ m) = symCells l ++ symCells m := by simp [symCells]
theorem symCells_one (x : Sym) : symCells [x] = [.string x.name, .int .i64 x.kind, .int .i64 x.arity, .string x.unit] := rfl
theorem symCells_length : ∀ l : List Sym, (symCells l).length = l.length * 4
  | [] => rfl
  | x :: l => by rw [symCells_cons]; simp [symCells_length l]; omega
theorem symCells_oneCell (l : List Sym) : ∀ u ∈ symCells l, u.oneCell' = true := by
  intro u hu
  simp only [symCells, List.mem_flatMap, Sym.cells, List.mem_cons, List.not_mem_nil, or_false] at hu
  obtain ⟨x, _, h | h | h | h⟩ := hu <;> subst h <;> rfl
theorem symCells_at : ∀ (l : List Sym) (i : Nat) (h : i < l.length),
    (symCells l)[i * 4]? = some (.string l[i].name) ∧ (symCells l)[i * 4 + 1]? = some (.int .i64 l[i].kind) ∧ (symCells l)[i * 4 + 2]? = some (.int .i64 l[i].arity) ∧ (symCells l)[i * 4 + 3]? = some (.string l[i].unit)
  | [], i, h => absurd h (by simp)
  | x :: l, 0, h => by rw [symCells_cons]; simp
  | x :: l, i + 1, h => by
    have ih := symCells_at l i (by simpa using h)
    rw [symCells_cons]
    rw [show (i + 1) * 4 = i * 4 + 1 + 1 + 1 + 1 by omega, show i * 4 + 1 + 1 + 1 + 1 + 1 = (i * 4 + 1) + 1 + 1 + 1 + 1 by omega, show i * 4 + 1 + 1 + 1 + 1 + 2 = (i * 4 + 2) + 1 + 1 + 1 + 1 by omega, show i * 4 + 1 + 1 + 1 + 1 + 3 = (i * 4 + 3) + 1 + 1 + 1 + 1 by omega]
    simp only [List.getElem?_cons_succ, List.getElem_cons_succ]
    exact ih

/-- Where a signature lies, as one row of cells. -/
theorem news_of_syms {w : World} {b : Nat} : ∀ (l : List Sym) (off : Nat), (∀ i (h : i < l.length), SymAt w b (off + i * 4) l[i]) → ∀ j u, (symCells l)[j]? = some u → w.cell? ⟨b, off + j, none⟩ = some u
  | [], _, _, j, u, hu => by simp [symCells_nil] at hu
  | x :: l, off, h, j, u, hu => by
    have h0 := h 0 (by simp)
    simp only [Nat.zero_mul, Nat.add_zero, List.getElem_cons_zero] at h0
    rw [symCells_cons] at hu
    match j, hu with
    | 0, hu => simp at hu; subst hu; exact h0.name
    | 1, hu => simp at hu; subst hu; exact h0.kind
    | 2, hu => simp at hu; subst hu; exact h0.arity
    | 3, hu => simp at hu; subst hu; exact h0.unit
    | j + 4, hu =>
      simp only [List.getElem?_cons_succ] at hu
      have := news_of_syms l (off + 4) (fun i hi => by
        have := h (i + 1) (by simpa using hi)
        simp only [List.getElem_cons_succ] at this
        rw [show off + 4 + i * 4 = off + (i + 1) * 4 by omega]
        exact this) j u hu
      rw [show off + (j + 4) = off + 4 + j by omega]
      exact this

/-- A row that is known whole holds the signature. -/
theorem sigAt_of_row {w : World} {g n : Nat} {l : List Sym} {cur : Array Value} {e : TypeId} {fr : Nat × Nat} (hh : w.heap[g]? = some (.cells cur e fr)) (hn : n = l.length) (hm : n ≤ maxLen) (hc : cur.toList.take (n * 4) = symCells l) (hf : ∀ x ∈ l, x.Fits) :
    SigAt w (some ⟨g, 0, none⟩) n l := by
  refine ⟨hn, hm, fun i hi => ⟨g, 0, rfl, ?_⟩, hf⟩
  have hat := symCells_at l i hi
  have key : ∀ j, j < n * 4 → w.cell? ⟨g, 0 + j, none⟩ = (symCells l)[j]? := by
    intro j hj
    rw [Nat.zero_add, cell_of_row w g j cur e fr hh, ← hc, List.getElem?_take_of_lt hj]
    simp
  exact ⟨by rw [key _ (by omega)]; exact hat.1, by rw [Nat.add_assoc, key _ (by omega)]; exact hat.2.1, by rw [Nat.add_assoc, key _ (by omega)]; exact hat.2.2.1, by rw [Nat.add_assoc, key _ (by omega)]; exact hat.2.2.2⟩

theorem sigAt_of_owns {w : World} {base g n cap : Nat} {l : List Sym} (h : w.ownsRow base 47 4 (.slice (some ⟨g, 0, none⟩) n cap) n (symCells l)) (hm : n ≤ maxLen) (hf : ∀ x ∈ l, x.Fits) : SigAt w (some ⟨g, 0, none⟩) n l := by
  obtain ⟨hl, h⟩ := h
  rw [symCells_length] at hl
  rcases h with ⟨hv, _⟩ | ⟨g', cap', cur, hv, _, hh, hnc, _, hsz, hcur⟩
  · cases hv
  · simp only [Value.slice.injEq, Option.some.injEq, Addr.mk.injEq, and_true, true_and] at hv
    obtain ⟨rfl, rfl⟩ := hv
    exact sigAt_of_row hh (by omega) hm hcur hf

theorem Tryz.info47 : (Tryz.prog.info? 47).map (fun i => (i.zero, i.size, i.bytes)) = some (some (.agg #[.string ⟨#[]⟩, .int .i64 0, .int .i64 0, .string ⟨#[]⟩]), 4, 48) := by kernel_rfl

def plainS (x : Sym) : Sym := if x.kind = 3 then ⟨x.name, 2, x.arity, ⟨#[]⟩⟩ else x
theorem plainS_not {x : Sym} (h : x.kind ≠ 3) : plainS x = x := by simp [plainS, h]
theorem plainS_is {x : Sym} (h : x.kind = 3) : plainS x = ⟨x.name, 2, x.arity, ⟨#[]⟩⟩ := by simp [plainS, h]
theorem plainS_fits {x : Sym} (h : x.Fits) : (plainS x).Fits := by
  unfold plainS
  split
  · exact ⟨h.name, by show ByteArray.size ⟨#[]⟩ ≤ maxLen; decide⟩
  · exact h


theorem sym_news (w : World) (H : Nat) (hH : w.heap.size = H) (y : Sym) : ∀ j u, (symCells [y])[j]? = some u → (w.alloc (.cells #[.string y.name, .int .i64 y.kind, .int .i64 y.arity, .string y.unit] 47)).cell? ((⟨H, 0, none⟩ : Addr).add j) = some u := by
  subst hH
  exact World.news_of_block (cs := #[.string y.name, .int .i64 y.kind, .int .i64 y.arity, .string y.unit]) (t := 47) (fr := (0, 0)) (heap_alloc_new w _)
theorem sigAt_of_owns_any {w : World} {base n : Nat} {v : Value} {l : List Sym} (h : w.ownsRow base 47 4 v n (symCells l)) (hm : n ≤ maxLen) (hf : ∀ x ∈ l, x.Fits) : ∃ a cap, v = .slice a n cap ∧ SigAt w a n l := by
  rcases h.2 with ⟨hv, h0⟩ | ⟨g, cap, cur, hv, _⟩
  · have hl := h.1
    rw [symCells_length, h0] at hl
    have : l = [] := List.length_eq_zero_iff.1 (by omega)
    subst this
    exact ⟨none, 0, by rw [hv, h0], by simp [h0], by omega, fun i hi => absurd hi (by simp), fun x hx => absurd hx (by simp)⟩
  · subst hv
    exact ⟨_, _, rfl, sigAt_of_owns h hm hf⟩
theorem plain_succ {l : List Sym} {k : Nat} (hk : k < l.length) : symCells ((l.take (k + 1)).map plainS) = symCells ((l.take k).map plainS) ++ symCells [plainS l[k]] := by
  rw [List.take_succ_eq_append_getElem hk, List.map_append, symCells_append]; rfl

theorem own_base {w : World} {base n : Nat} {e : TypeId} {z : Nat} {v : Value} {xs : List Value} (h : w.ownsRow base e z v n xs) : ∀ k, v.ownBlock = some k → base ≤ k := by
  intro k hk
  rcases h.2 with ⟨hv, _⟩ | ⟨g, cap, cur, hv, hb, _⟩
  · subst hv; cases hk
  · subst hv; cases hk; exact hb

set_option maxHeartbeats 400000 in
theorem rplain_any (a : Option Addr) (n cap : Nat) (l : List Sym) (w : World) (h : SigAt w a n l) (hr : n * 48 ≤ 140737488351232) :
    Calls Tryz.prog 7 #[.slice a n cap] w fun e w' => ∃ a' cap', e = .returned (.slice a' n cap') ∧ SigAt w' a' n (l.map plainS) ∧ Below w.heap.size w w' := by
  obtain ⟨i0, hi, hz0, hz1, hz2⟩ := info_parts Tryz.info47
  have HS : Hid (SigAt w a n l) := h
  have hlen : Hid (n = l.length) := h.len
  clear h
  go_enter Tryz.func7, Tryz.ntmps7
  go_wp2
  go_loopw [3, 4, 5] (fun v i _ w' => ∃ k : Nat, k ≤ n ∧ i = .int .i64 k ∧ w'.ownsRow w.heap.size 47 4 v k (symCells ((l.take k).map plainS)) ∧ Below w.heap.size w w') (fun _ i _ _ => n - (intOf i).toNat)
  case atStart => exact ⟨0, Nat.zero_le _, rfl, World.ownsRow_nil _ _ _ _, Below.refl _ _⟩
  case round =>
    obtain ⟨k, hk, rfl, hown, hb⟩ := hrel
    have HB : Hid (Below w.heap.size w wr) := hb
    by_cases hlt : k < n
    · have hlk : k < l.length := by have := hlen.out; omega
      obtain ⟨b, off, rfl, hsym⟩ := HS.out.cells k hlk
      have hw := hsym.below hb
      have c0 := hw.name
      have c1 := hw.kind
      have c2 := hw.arity
      have c3 := hw.unit
      clear hw hsym hb
      cases hk3 : (l[k].kind == 3)
      · have hp : Hid (l[k] = plainS l[k]) := (plainS_not (by simpa using hk3)).symm
        go_wp2_with (at_builtin; refine wpList_append_lies _ rfl (.tmp 21) (.tmp 23) 23 rfl w.heap.size 47 i0 _ 4 48 Tryz.underlying23 hi hz0 hz1 hz2 rfl (by decide) u3 k _ rfl ((hown.alloc _).alloc _) ⟨wr.heap.size + 1, 0, none⟩ 1 1 (symCells [l[k]]) rfl rfl (sym_news _ _ (by simp) _) (symCells_oneCell _) (by decide) (by unfold maxLen; omega) (by omega) (by have := HB.out.size; simp; omega) (wr.heap.size + 2) (by simp) ?_; intro g1 cap1 w1 hown1 hgrow1 hat1 hlt1)
        have HB2 := ((HB.out.alloc HB.out.size _).alloc (by have := HB.out.size; simp; omega) _).grown hgrow1 (by have := HB.out.size; simp; omega) (own_base hown)
        go_roundw
        case rel => exact ⟨k + 1, by omega, by go_num, by rw [plain_succ hlk, ← hp.out]; exact hown1, HB2⟩
        case measure => simp [intOf]; omega
      · have hp : Hid ((⟨l[k].name, 2, l[k].arity, ⟨#[]⟩⟩ : Sym) = plainS l[k]) := (plainS_is (by simpa using hk3)).symm
        go_wp2_with (at_builtin; refine wpList_append_lies _ rfl (.tmp 21) (.tmp 23) 23 rfl w.heap.size 47 i0 _ 4 48 Tryz.underlying23 hi hz0 hz1 hz2 rfl (by decide) u3 k _ rfl ((hown.alloc _).alloc _) ⟨wr.heap.size + 1, 0, none⟩ 1 1 (symCells [⟨l[k].name, 2, l[k].arity, ⟨#[]⟩⟩]) rfl rfl (sym_news _ _ (by simp) _) (symCells_oneCell _) (by decide) (by unfold maxLen; omega) (by omega) (by have := HB.out.size; simp; omega) (wr.heap.size + 2) (by simp) ?_; intro g1 cap1 w1 hown1 hgrow1 hat1 hlt1)
        have HB2 := ((HB.out.alloc HB.out.size _).alloc (by have := HB.out.size; simp; omega) _).grown hgrow1 (by have := HB.out.size; simp; omega) (own_base hown)
        go_roundw
        case rel => exact ⟨k + 1, by omega, by go_num, by rw [plain_succ hlk, ← hp.out]; exact hown1, HB2⟩
        case measure => simp [intOf]; omega
    · have hkn : Hid (k = n) := by show k = n; omega
      have hfin : Hid (∃ a' cap', u3 = .slice a' n cap' ∧ SigAt wr a' n (l.map plainS)) := by
        have h1 := hown
        rw [hkn.out, List.take_of_length_le (by have := hlen.out; omega)] at h1
        exact sigAt_of_owns_any h1 (by unfold maxLen; omega) (fun x hx => by
          obtain ⟨y, hy, rfl⟩ := List.mem_map.1 hx
          exact plainS_fits (HS.out.fits y hy))
      clear hown hb
      go_wp2
      go_ret
      obtain ⟨a', cap', hv, hs⟩ := hfin.out
      exact ⟨a', cap', by rw [← hv]; rfl, hs, HB.out⟩
end Go.Proofs.YtfnfbljijkjkjaaGreat
/- Size of package terms. -/
namespace Go.Proofs.YtfnfbljijkjkjaaGreat
open Go.RowKit Go.Shelf Go.Deep

attribute [local go_sem] Oper.semAt_some


set_option maxRecDepth 100000 in
set_option maxHeartbeats 2000000 in
theorem size_any (x : ByteArray × Int) (l : Fo) (a : Option Addr) (c : Nat) (w : World) (hT : TmAt w x a c l) (hM : (nodesF l + 2) * 8 ≤ 140737488355328) :
    Calls Tryz.prog 54 #[.agg #[.string x.1, .int .i64 x.2, .slice a (lenF l) c]] w fun e w' => e = .returned (.int .i64 ((nodesF l + 1 : Nat) : Int)) ∧ Below w.heap.size w w' := by
  refine (callsIn_wide (n := 6)).1 ?_
  have h1 : 1 ≤ 6 := by omega
  refine callsIn_of_wp_marks Tryz.func54 rfl trivial ?_ rfl
  simp only [Tryz.ntmps54, List.size_toArray, List.length_cons, List.length_nil, Nat.reduceAdd, Nat.reduceSub, Array.replicate_succ, Array.replicate_zero, List.push_toArray, List.append_toArray, List.nil_append, List.cons_append]
  gi_wp2_with fail
  refine ⟨trivial, ?_⟩
  refine (callsIn_wide.2 (places_any x a (lenF l) c _)).mono ?_
  rintro e w' ⟨rfl, rfl⟩
  gi_wp2
  have bN := (Boxed.new (w.alloc (.cells #[.string x.1, .int .i64 x.2, .slice a (lenF l) c] 26)) 3 (.int .i64 0)).alloc (.cells #[.string x.1, .int .i64 x.2, .slice a (lenF l) c] 26)
  have bT := TBox.new ((w.alloc (.cells #[.string x.1, .int .i64 x.2, .slice a (lenF l) c] 26)).alloc (.cells #[.int .i64 0] 3)) x a (lenF l) c
  simp only [World.size_alloc] at bN bT
  have hB0 : Below w.heap.size w (((w.alloc (.cells #[.string x.1, .int .i64 x.2, .slice a (lenF l) c] 26)).alloc (.cells #[.int .i64 0] 3)).alloc (.cells #[.string x.1, .int .i64 x.2, .slice a (lenF l) c] 26)) := (((Below.refl _ w).alloc (Nat.le_refl _) _).alloc (by simp) _).alloc (by simp; omega) _
  have hsz : (((w.alloc (.cells #[.string x.1, .int .i64 x.2, .slice a (lenF l) c] 26)).alloc (.cells #[.int .i64 0] 3)).alloc (.cells #[.string x.1, .int .i64 x.2, .slice a (lenF l) c] 26)).heap.size = w.heap.size + 3 := by simp
  obtain ⟨W0, hW0⟩ : ∃ W0, ((w.alloc (.cells #[.string x.1, .int .i64 x.2, .slice a (lenF l) c] 26)).alloc (.cells #[.int .i64 0] 3)).alloc (.cells #[.string x.1, .int .i64 x.2, .slice a (lenF l) c] 26) = W0 := ⟨_, rfl⟩
  rw [hW0] at bN bT hB0 hsz ⊢
  clear hW0
  refine range_own (gf := 94) (lb := #[.pointer (some ⟨w.heap.size + 1 + 1, 0, none⟩)]) rfl (enters_of Tryz.func94 (by kernel_rfl) rfl)
    (places1_seq w W0 (nodesF l + 1) (w.heap.size + 1 + 1) x l a c hT bT hB0 (by omega)) (Below.refl _ _) (fun _ => rfl)
    (fun _ _ _ h hc => h.cl hc) (fun _ _ _ hc => Leaves.of_cl hc (by omega)) (fun _ _ _ _ h k => h.trans k)
    (fun pre W => (Boxed W (w.heap.size + 1) 3 (.int .i64 (pre.length : Int)) ∧ Below w.heap.size w W) ∧ pre.length ≤ nodesF l + 1)
    (fun _ _ _ => False)
    (fun _ _ _ h hm => ⟨⟨boxed_mv h.1.1 hm (by omega), below_mv h.1.2 hm (by omega)⟩, h.2⟩)
    (fun _ _ _ _ h _ => h) (fun _ _ h => h.2) ⟨⟨bN, hB0⟩, by simp⟩
    (fun e a' _ => a' = { tmps := #[.agg #[.string x.1, .int .i64 x.2, .slice a (lenF l) c], .pointer (some ⟨w.heap.size, 0, none⟩), .int .i64 0, .pointer (some ⟨w.heap.size + 1, 0, none⟩), .agg #[.string x.1, .int .i64 x.2, .slice a (lenF l) c], .func (.func 94) #[] #[.pointer (some ⟨w.heap.size + 1 + 1, 0, none⟩)], e.pv, .agg #[.string e.x.1, .int .i64 e.x.2, .slice e.a (lenF e.l) e.c], undef, undef, undef], defers := [] })
    (fun _ _ _ _ h _ => h) ?assign ?body ?done ?stop
  case assign =>
    rintro pre e W K _ _ hK m
    simp only [El.encs]
    gi_wp2
    exact hK _ _ (Below.refl _ _) (by simp)
  case body =>
    rintro pre e a' W _ ⟨⟨bn, hB⟩, hl⟩ hF rfl hlt m
    have cn := bn.cell
    have fn := bn.frozen
    gi_wp2
    refine ⟨(KeepsOthers.setCell _ _ _).from _, Leaves.set hF bn (by omega) (by omega) (by decide) (by decide) (by decide) (by decide) _, ⟨?_, hB.setCell (p := ⟨w.heap.size + 1, 0, none⟩) (by show _ ≤ w.heap.size + 1; omega) _⟩, by simp; omega⟩
    rw [List.length_append, List.length_singleton, Int.natCast_add]
    exact bn.set _
  case done =>
    rintro ys W hS ⟨⟨bn, hB⟩, _⟩ hK
    have cn := bn.cell
    have hl : ys.length = nodesF l + 1 := by
      have := congrArg List.length hS
      rw [List.length_map, placesT, List.length_cons, places_len] at this
      exact this
    rw [hl] at cn
    gi_wp2
    refine ⟨by simp, .inl ⟨_, _, rfl, run_takeDeferred hK, ?_⟩⟩
    exact ⟨_, results_tmp rfl _ _ _, rfl, hB.trans (below_putObj _ (by omega) _)⟩
  case stop =>
    rintro c pre W _ h _
    exact h.elim
end Go.Proofs.YtfnfbljijkjkjaaGreat
/- What the laws of this layer rest on: the texts carried from the layers below. -/
namespace Go.Proofs.YtfnfbljijkjkjaaGreat
end Go.Proofs.YtfnfbljijkjkjaaGreat
