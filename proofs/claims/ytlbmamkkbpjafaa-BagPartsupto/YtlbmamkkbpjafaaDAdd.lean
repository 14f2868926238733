/- What the document's Add answers. -/
import Derived.Test.YtlbmamkkbpjafaaDApp
namespace Go.Proofs.Ytlbmamkkbpjafaa
open Go.RowKit Go.Deep

theorem its_of60 {W : World} {base : Nat} {p : Option Addr} {c : Nat} {l : List It} (h : W.ownsRow base 60 3 (.slice p l.length c) l.length (itAll l)) : ItsAt W p l.length l := by
  rcases h.2 with ⟨h2, h3⟩ | ⟨g, cap, cur, h1, h2, h3, h4, h5, h6, h7⟩
  · exact ⟨rfl, by rw [h3]; exact Nat.zero_le _, fun i hi => by omega⟩
  · obtain ⟨e1, _, e3⟩ := Value.slice.inj h1
    subst e1
    have hc : ∀ j u, (itAll l)[j]? = some u → W.cell? ⟨g, j, none⟩ = some u := fun j u hj => by
      have := h.cells (g := g) rfl j u hj
      rwa [Addr.add_lit, Nat.zero_add] at this
    refine ⟨rfl, Nat.le_trans h4 h5, fun i hi => ⟨g, 0, rfl, ?_, ?_, ?_⟩⟩ <;> rw [Nat.zero_add]
    · exact hc _ _ (itAll_at l i hi 0 (by decide))
    · exact hc _ _ (itAll_at l i hi 1 (by decide))
    · exact hc _ _ (itAll_at l i hi 2 (by decide))
theorem owns60_fr {A : Nat → Prop} {W W' : World} {base n : Nat} {v : Value} {xs : List Value} (h : W.ownsRow base 60 3 v n xs) (hf : Fr A W W') (hA : ∀ q, v.ownBlock = some q → ¬ A q) : W'.ownsRow base 60 3 v n xs :=
  ⟨h.1, h.2.imp id (fun ⟨g, cap, cur, h1, h2, h3, h4⟩ => ⟨g, cap, cur, h1, h2, (hf.same g (Array.getElem?_eq_some_iff.1 h3).1 (hA g (by rw [h1]; rfl))).trans h3, h4⟩)⟩
theorem owns60_below {W W' : World} {base n : Nat} {v : Value} {xs : List Value} (h : W.ownsRow base 60 3 v n xs) (hb : Below W.heap.size W W') : W'.ownsRow base 60 3 v n xs := owns60_fr h (Fr.of_below (A := fun _ => False) hb) (fun _ _ h => h)
/-- All of a row, as what is appended. -/
theorem src_all {W : World} {base : Nat} {p : Option Addr} {c : Nat} {l : List It} (h : W.ownsRow base 60 3 (.slice p l.length c) l.length (itAll l)) : (p = none ∧ l.length = 0 ∧ c = 0 ∧ itAll l = []) ∨ ∃ ad, p = some ad ∧ (itAll l).length = l.length * 3 ∧ ∀ j u, (itAll l)[j]? = some u → W.cell? (ad.add j) = some u := by
  rcases h.2 with ⟨h2, h3⟩ | ⟨g, cap, cur, h1, _⟩
  · obtain ⟨e1, _, e3⟩ := Value.slice.inj h2
    exact .inl ⟨e1, h3, e3, by rw [List.eq_nil_of_length_eq_zero h3]; rfl⟩
  · obtain ⟨e1, _, _⟩ := Value.slice.inj h1
    subst e1
    exact .inr ⟨_, rfl, itAll_len l, fun j u hj => h.cells (g := g) rfl j u hj⟩
theorem load_bag {W : World} {B : Nat} {v : Value} {t : TypeId} (h : W.heap[B]? = some (.cells #[v] t (0, 0))) : (loadVar 27 ⟨B, 0, none⟩).run Try.prog W = .ok (.agg #[v]) W := by
  have c0 : W.cell? ⟨B, 0, none⟩ = some v := cell_box h rfl
  simp [go_sem, loadVar, c0]
theorem ret10 {R : Ending → World → Prop} {a : Act} {w : World} {B : Nat} {v : Value} {t : TypeId} (h6 : a.tmps.getD 6 undef = .pointer (some ⟨B, 0, none⟩)) (hx : w.heap[B]? = some (.cells #[v] t (0, 0))) (hd : a.defers = []) (hR : R (.returned (.tuple #[.agg #[v], a.tmps.getD 7 undef])) w) : bodyPost Try.prog Try.f10 R .ret a w := by
  refine bodyPost_ret ?_ hd hR
  have h : Try.f10.results = #[.cell 6 27, .tmp 7] := rfl
  have e : (results Try.f10 a.tmps).run Try.prog w = ((asAddr (a.tmps.getD 6 undef)).run Try.prog w).andThen fun q w₁ => ((loadVar 27 q).run Try.prog w₁).andThen fun y w₂ => .ok (.tuple #[y, a.tmps.getD 7 undef]) w₂ := by
    simp only [results, h]
    simp [Sem.run_bind, Result.andThen]
  rw [e, h6, show (asAddr (.pointer (some ⟨B, 0, none⟩))).run Try.prog w = .ok ⟨B, 0, none⟩ w from rfl]
  simp only [Result.andThen_ok, load_bag hx]
set_option maxRecDepth 100000 in
set_option maxHeartbeats 4000000 in
theorem radd_zero (base : Nat) (p : Option Addr) (c : Nat) (l : List It) (x : Th) (w : World) (hO : w.ownsRow base 60 3 (.slice p l.length c) l.length (itAll l)) (hn : l.length ≤ 1048576) :
    Calls Try.prog 10 #[.agg #[.slice p l.length c], thV x, .int .i64 0] w fun e w' => e = .returned (.tuple #[.agg #[.slice p l.length c], .bool true]) ∧ Below w.heap.size w w' := by
  obtain ⟨xk, xm⟩ := x
  dsimp only [thV]
  have b1 := alloc_below0 w (.cells #[.slice p l.length c] 27)
  have n1 := World.alloc_heap_new w (.cells #[.slice p l.length c] 27)
  have b2 := alloc_below0 (w.alloc (.cells #[.slice p l.length c] 27)) (.cells #[.int .i64 xk, .int .i64 xm] 31)
  have n2 := World.alloc_heap_new (w.alloc (.cells #[.slice p l.length c] 27)) (.cells #[.int .i64 xk, .int .i64 xm] 31)
  have b3 := alloc_below0 ((w.alloc (.cells #[.slice p l.length c] 27)).alloc (.cells #[.int .i64 xk, .int .i64 xm] 31)) (.cells #[.slice none 0 0] 27)
  have n3 := World.alloc_heap_new ((w.alloc (.cells #[.slice p l.length c] 27)).alloc (.cells #[.int .i64 xk, .int .i64 xm] 31)) (.cells #[.slice none 0 0] 27)
  have N1 := hid ((b3.block _ (by rw [World.size_alloc]; have := (Array.getElem?_eq_some_iff.1 n1).1; omega)).trans ((b2.block _ (Array.getElem?_eq_some_iff.1 n1).1).trans n1))
  have N2 := hid ((b3.block _ (Array.getElem?_eq_some_iff.1 n2).1).trans n2)
  have N3 := hid n3
  simp only [World.size_alloc] at N2 N3
  have HB := hid ((b1.trans (b2.mono b1.size)).trans (b3.mono (Nat.le_trans b1.size b2.size)))
  have HO := hid (owns60_below (owns60_below (owns60_below hO b1) b2) b3)
  have HC := hid (rplace_any p c l (xk, xm) _ (its_of60 HO.out) hn)
  dsimp only [thV] at HC
  clear b1 n1 b2 n2 b3 n3
  go_enter Try.func10, Try.ntmps10
  go_wp2_with fail
  refine HC.out.mono ?_
  rintro e w1 ⟨rfl, hb1⟩
  have e1 := below_cell hb1 _ _ (cell_box (i := 0) N1.out rfl)
  obtain ⟨p', c', w2, hr, hA⟩ := run_app 25 w1.heap.size (.slice none 0 0) 0 [] w1 (World.ownsRow_nil _ _ _ _) p l.length c (itAll l) (src_all (owns60_below HO.out hb1)) (itAll_one l) (by omega) (Nat.le_refl _)
  have b5 : Below w1.heap.size w1 w2 := (fr_grown hA.grown).below (fun k hk => by cases hk) (Nat.le_refl _)
  have hbA := hb1.trans (b5.mono hb1.size)
  have e2 := below_cell hbA _ _ (cell_box (i := 0) N1.out rfl)
  have n3 := (hbA.block _ (Array.getElem?_eq_some_iff.1 N3.out).1).trans N3.out
  have e3 : w2.cell? ⟨w.heap.size + 1 + 1, 0, none⟩ = some (.slice none 0 0) := cell_box n3 rfl
  have f3 : w2.frozen? ⟨w.heap.size + 1 + 1, 0, none⟩ = false := by simp [World.frozen?, n3]
  have HBA := hid (HB.out.trans (hbA.mono HB.out.size))
  have N4 := hid n3
  clear hb1 hA b5 hbA n3 hO
  go_wp2_with (at_builtin; refine Lib.wpList_append_run _ rfl _ _ _ _ rfl _ _ rfl rfl _ _ hr ?_)
  have hge : w.heap.size ≤ w.heap.size + 1 + 1 := by omega
  exact ret10 (B := w.heap.size + 1 + 1) rfl (block_set N4.out _) rfl ⟨rfl, HBA.out.setCell (p := ⟨w.heap.size + 1 + 1, 0, none⟩) hge _⟩
end Go.Proofs.Ytlbmamkkbpjafaa
