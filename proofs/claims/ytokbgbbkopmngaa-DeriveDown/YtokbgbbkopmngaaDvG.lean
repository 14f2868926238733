/- slices.Clone of terms; lists of terms apart. -/
import Derived.Maps.AppendAt
import Derived.Lib.AppendZeros
import Derived.Laws.AppendOwnNone
import Derived.Test.YtokbgbbkopmngaaDvF
namespace Go.Proofs.Ytokbgbbkopmngaa
open Go.RowKit Go.Deep

theorem below_grown {w W W' : World} {r : Option Nat} (hb : Below w.heap.size w W) (h : W.grownBy W' r) (hr : ∀ k, r = some k → w.heap.size ≤ k) : Below w.heap.size w W' :=
  hb.trans ⟨h.os, h.tape, h.output, h.size, fun k hk => h.block k (Nat.lt_of_lt_of_le hk hb.size) (fun e => by have := hr k e.symm; omega)⟩
set_option maxRecDepth 100000 in
set_option maxHeartbeats 2000000 in
theorem clone_terms (b o c : Nat) (ks : List Kv) (w : World) (hc : ∀ i u, (kvCells ks)[i]? = some u → w.cell? ⟨b, o + i, none⟩ = some u) (hn : ks.length ≤ 1048576) (h0 : 0 < ks.length) :
    Calls Try.prog 82 #[.slice (some ⟨b, o, none⟩) ks.length c] w fun e w' => ∃ h c', e = .returned (.slice (some ⟨h, 0, none⟩) ks.length c') ∧ w.heap.size ≤ h ∧ RowV w' h c' ks ∧ Below w.heap.size w w' := by
  have h1 : (binOp .eql 24 (.slice (some ⟨b, o, none⟩) ks.length c) (.slice none 0 0)).run Try.prog w = .ok (.bool false) w := rfl
  have b1 := alloc_below0 w (.cells #[] 26)
  have hE : (w.alloc (.cells #[] 26)).ownsRow w.heap.size 26 3 (.slice (some ⟨w.heap.size, 0, none⟩) 0 0) 0 [] := ⟨rfl, .inr ⟨w.heap.size, 0, #[], rfl, Nat.le_refl _, World.alloc_heap_new w _, Nat.le_refl _, Nat.zero_le _, rfl, rfl⟩⟩
  obtain ⟨i0, hi0, hz0, hz1, hz2⟩ := info_parts Try.info26
  obtain ⟨v', w1, hr1, hA1, hG1, _, _⟩ := run_append_own_at (P := Try.prog) (w.alloc (.cells #[] 26)) w.heap.size 24 24 26 i0 _ 3 48 Try.underlying24 hi0 hz0 hz1 hz2 rfl (by decide) _ 0 [] hE ⟨b, o, none⟩ ks.length c (kvCells ks) (kvCells_len ks)
    (fun j u hu => by rw [Addr.add_lit]; exact below_cell b1 _ _ (hc j u hu)) (kvCells_one ks) (by unfold maxLen; omega) (by omega) b1.size
  have hb1 : Below w.heap.size w w1 := below_grown b1 hG1 (fun k hk => by have h7 : some w.heap.size = some k := hk; have := Option.some.inj h7; omega)
  rw [Nat.zero_add] at hA1
  rw [List.nil_append] at hA1
  obtain ⟨h, c', rfl, hh, hRR⟩ : ∃ h c', v' = .slice (some ⟨h, 0, none⟩) ks.length c' ∧ w.heap.size ≤ h ∧ RowV w1 h c' ks := by
    rcases hA1.2 with ⟨_, h2⟩ | ⟨g', cap', cur, h1, h2, h3, h4, h5, h6, h7⟩
    · omega
    · exact ⟨g', cap', h1, h2, ⟨⟨cur, h3, h6, h7⟩, h4, h5⟩⟩
  have HR := hid hRR; have HB1 := hid hb1; have HH := hid hh
  clear hE hG1 hA1 hb1 b1 hc hRR hh
  go_enter Try.func82, Try.ntmps82
  go_wp2_with (first
    | (at_builtin; refine Lib.wpList_append_run _ rfl _ _ _ _ rfl _ _ rfl rfl _ _ hr1 ?_; clear hr1)
    | fail)
  go_ret
  exact ⟨h, c', rfl, HH.out, HR.out, HB1.out⟩
theorem gl_split {E : World → Bl → Kv → Prop} {w : World} : ∀ {l1 l2 : List Kv} {A : Bl}, GL E w (l1 ++ l2) A → ∃ A1 A2 : Bl, (∀ q, A1 q → A q) ∧ (∀ q, A2 q → A q ∧ ¬ A1 q) ∧ GL E w l1 A1 ∧ GL E w l2 A2
  | [], l2, A, h => ⟨fun _ => False, A, fun _ h => h.elim, fun _ h => ⟨h, fun h => h⟩, trivial, h⟩
  | k :: r, l2, A, ⟨B1, B2, h1, h2, h3, h4⟩ => by
    obtain ⟨C1, C2, k1, k2, k3, k4⟩ := gl_split (l1 := r) (l2 := l2) h4
    refine ⟨fun q => B1 q ∨ C1 q, C2, fun q hq => ?_, fun q hq => ⟨(h2 q (k2 q hq).1).1, ?_⟩, ⟨B1, C1, fun q hq => .inl hq, fun q hq => ⟨.inr hq, (h2 q (k1 q hq)).2⟩, h3, k3⟩, k4⟩
    · rcases hq with hq | hq
      · exact h1 q hq
      · exact (h2 q (k1 q hq)).1
    · rintro (h | h)
      · exact (h2 q (k2 q hq).1).2 h
      · exact (k2 q hq).2 h
theorem mid_perm (ks : List Kv) (i m : Nat) : List.Perm ks (((ks.drop i).take m) ++ (ks.take i ++ ks.drop (i + m))) := by
  have e : ks = ks.take i ++ ((ks.drop i).take m ++ ks.drop (i + m)) := by rw [← List.drop_drop, List.take_append_drop, List.take_append_drop]
  conv => lhs; rw [e]
  rw [← List.append_assoc, ← List.append_assoc]
  exact List.perm_append_comm.append_right _
/-- Boxes beside what lay turns. -/
theorem lay_far {W2 w3 : World} {b o N : Nat} {cur : Array Value} {a : Option Addr} {ks : List Kv} (hE : LayEnd W2 b o cur a ks w3) (ha : ∀ q, a.map Addr.block = some q → q < N) (hb : b < N) {q : Nat} (hN : N ≤ q) (hq : q < W2.heap.size) : w3.heap[q]? = W2.heap[q]? := by
  obtain ⟨g', c', _, _, hF, _⟩ := hE
  refine hF.same q hq ?_
  rintro (h | h)
  · have := ha q h; omega
  · omega
end Go.Proofs.Ytokbgbbkopmngaa
