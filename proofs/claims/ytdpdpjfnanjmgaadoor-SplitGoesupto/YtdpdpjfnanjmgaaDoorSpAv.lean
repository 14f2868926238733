/- What may be gone through, whatever it is: All's function values. -/
import Derived.Test.YtdpdpjfnanjmgaaDoorSpAr
import Derived.Test.YtdpdpjfnanjmgaaDoorSpG
namespace Go.Proofs.YtdpdpjfnanjmgaaDoor
open Go.RowKit Go.Shelf

/-- A function value that hands out these ways, as long as some blocks stay as they are. -/
structure SeqOk (B : Nat → Prop) (K T : Nat) (Keep : World → Prop) (L : List (List Nat)) (gf : Nat) (lb : Array Value) : Prop where
  en : ∀ args w, (callFunc gf args).run Tryd.prog w = .ok (.enter gf args) w
  nl : ∀ w, (binOp .eql 33 (.func (.func gf) #[] lb) .nilFunc).run Tryd.prog w = .ok (.bool false) w
  same : ∀ W W' : World, Keep W → (∀ b, B b → W'.heap[b]? = W.heap[b]?) → Keep W'
  go : ∀ (m lp : Nat) (J : Nat → (Nat → Prop) → World → Prop) (Jx : World → Prop) (W0 : World),
    (∀ (i : Nat) (M M' : Nat → Prop) (W W' : World), J i M W → Fr M W W' → (∀ b, M' b → M b ∨ W.heap.size ≤ b) → J i M' W') →
    (∀ (i : Nat) (M : Nat → Prop) (W : World), J i M W → Keep W ∧ ∀ b, B b → ¬ M b) →
    (∀ (mm i : Nat) (M : Nat → Prop) (W : World) (v : List Nat) (g bs : Nat), L[i]? = some v → J i M W → (∀ b, M b → b < bs) → bs ≤ W.heap.size → W0.heap.size ≤ bs → WayAt W bs g K T (rowsN K T v) → YieldAt Fence.wide mm Tryd.prog lp #[.slice (some ⟨g, 0, none⟩) T T] W fun e W' => (∀ b, M b → W'.heap[b]? = W.heap[b]?) ∧ W.heap.size ≤ W'.heap.size ∧ ((e = .returned (.bool true) ∧ J (i + 1) M W') ∨ (e = .returned (.bool false) ∧ Jx W'))) →
    J 0 (fun _ => False) W0 → CallsIn Fence.wide (m + 4) Tryd.prog gf (#[.func (.yield lp) #[] #[]] ++ lb) W0 fun e W' => (∃ v, e = .returned v) ∧ ((∃ M, J L.length M W') ∨ Jx W')
theorem nil25 (x : Array Value) (w : World) : (binOp .eql 33 (.func (.func 25) #[] x) .nilFunc).run Tryd.prog w = .ok (.bool false) w := by kernel_rfl
theorem seq_none (K T : Nat) : SeqOk (fun _ => False) K T (fun _ => True) [] 25 #[] where
  en := enters_of Tryd.func25 (by kernel_rfl) rfl
  nl := nil25 _
  same := fun _ _ _ _ => trivial
  go := fun m lp J Jx W0 _ _ _ h0 => (none_in (m + 4) lp W0).mono fun e W' ⟨h1, h2⟩ => ⟨h1, .inl ⟨fun _ => False, by rw [h2]; exact h0⟩⟩
theorem seq_all {X Bf : Nat} {m k : List Nat} {e : Bool} {pk : Option Addr} {ck : Nat} {f : Nat → Nat → Nat} (hF : Fine m k) (hf : Sv k f) : SeqOk (fun b => b = X ∨ b = Bf ∨ b = 0 ∨ ∃ o, pk = some ⟨b, o, none⟩) m.length k.length (fun W => DlAt W X m.length pk k.length ck f ∧ IntsAt W pk (up k) ∧ Tab W ∧ W.heap[Bf]? = some (.cells (dC ⟨[], m, needN e k⟩).toArray 62 (0, 0))) (waysF m k e) 28 #[.pointer (some ⟨X, 0, none⟩), .pointer (some ⟨Bf, 0, none⟩)] where
  en := enters_of Tryd.func28 (by kernel_rfl) rfl
  nl := nil28 _
  same := fun W W' ⟨h1, h2, h3, h4⟩ hs => ⟨h1.same (hs X (.inl rfl)), ⟨h2.small, fun i hi => by
    obtain ⟨b, o, e1, e2⟩ := h2.cells i hi
    exact ⟨b, o, e1, (cell_same (hs b (.inr (.inr (.inr ⟨o, e1⟩))))).trans e2⟩⟩, fun i hi => (cell_same (hs 0 (.inr (.inr (.inl rfl))))).trans (h3 i hi), (hs Bf (.inr (.inl rfl))).trans h4⟩
  go := fun mm lp J Jx W0 hst hk hY h0 => by
    have h := all_in mm lp X Bf m.length k.length ck pk k f ⟨[], m, needN e k⟩ J Jx W0 rfl hF.often hF.few hF.takers hf (dl_ok e hF) rfl (hk 0 _ W0 h0).1.2.2.2 hst (fun i M W hj => by
      obtain ⟨⟨h1, h2, h3, _⟩, h5⟩ := hk i M W hj
      exact ⟨h1, h2, h3, h5 X (.inl rfl), h5 0 (.inr (.inr (.inl rfl))), fun a o he => h5 a (.inr (.inr (.inr ⟨o, he⟩)))⟩) (fun mm i M W v g bs hv => by rw [wd_all m k e] at hv; exact hY mm i M W v g bs hv) h0
    rw [wd_all m k e] at h
    exact h
/-- A copy of numbers. -/
theorem copyI {W : World} {q : Option Addr} {d : Nat} {ns : List Int} (hI : IntsAt W q ns) (hq : q = none → d = 0) (hl : ns.length ≤ 1048576) : ∃ (p : Option Addr) (c : Nat) (w' : World), (∀ ty, (Builtin.append_ #[23, 23] ty #[.slice (some ⟨W.heap.size, 0, none⟩) 0 0, .slice q ns.length d]).run Tryd.prog (W.alloc (.cells #[] 3)) = .ok (.slice p ns.length c) w') ∧ CRow w' W.heap.size p c ns ∧ Below W.heap.size W w' := by
  have b1 := alloc_below0 W (.cells #[] 3)
  have hE : (W.alloc (.cells #[] 3)).ownsRow W.heap.size 3 1 (.slice (some ⟨W.heap.size, 0, none⟩) 0 0) 0 [] := ⟨rfl, .inr ⟨W.heap.size, 0, #[], rfl, Nat.le_refl _, World.alloc_heap_new W _, Nat.le_refl _, Nat.zero_le _, rfl, rfl⟩⟩
  obtain ⟨p, c, w', hr, hA, hG⟩ := run_appI 23 W.heap.size _ 0 [] _ hE q ns.length d (cAll ns) (src_i d (hI.below b1) hq) (cAll_one _) (by omega) b1.size
  rw [Nat.zero_add] at hr hA
  rw [List.nil_append] at hA
  exact ⟨p, c, w', fun _ => hr, hA, b1.trans ((fr_grown hG).below (fun k hk => by have h7 : some W.heap.size = some k := hk; have := Option.some.inj h7; omega) b1.size)⟩
theorem crow_setI {W : World} {base q d : Nat} {r : List Int} (h : CRow W base (some ⟨q, 0, none⟩) d r) (j : Nat) (v : Int) : CRow (W.setCell ⟨q, j, none⟩ (.int .i64 v)) base (some ⟨q, 0, none⟩) d (r.set j v) := by
  unfold CRow at h ⊢
  rw [List.length_set]
  refine ⟨by rw [cAll_len, List.length_set, Nat.mul_one], ?_⟩
  rcases h.2 with ⟨h1, _⟩ | ⟨g, cap, cur, h1, h2, h3, h4, h5, h6, h7⟩
  · cases h1
  · cases h1
    refine .inr ⟨q, d, cur.setIfInBounds j (.int .i64 v), rfl, h2, block_set h3 _, h4, h5, by rw [Array.size_setIfInBounds]; exact h6, ?_⟩
    rw [Array.toList_setIfInBounds]
    have e : cAll (r.set j v) = (cAll r).set j (.int .i64 v) := by
      unfold cAll
      rw [List.map_set]
    rw [e, ← h7, List.take_set]
theorem crow_cellI {W : World} {base : Nat} {p : Option Addr} {d : Nat} {r : List Int} (h : CRow W base p d r) {j : Nat} (hj : j < r.length) : ∃ q, p = some ⟨q, 0, none⟩ ∧ W.cell? ⟨q, j, none⟩ = some (.int .i64 r[j]) ∧ W.frozen? ⟨q, j, none⟩ = false ∧ base ≤ q ∧ q < W.heap.size := by
  obtain ⟨b, o, e, hc⟩ := h.ints.cells j hj
  rcases h.2 with ⟨h1, h0⟩ | ⟨g, cap, cur, h1, h2, h3, _⟩
  · omega
  · injection h1 with h1 _ _
    rw [h1] at e
    cases e
    rw [Nat.zero_add] at hc
    exact ⟨_, h1, hc, by simp [World.frozen?, h3], h2, (Array.getElem?_eq_some_iff.1 h3).1⟩
end Go.Proofs.YtdpdpjfnanjmgaaDoor
