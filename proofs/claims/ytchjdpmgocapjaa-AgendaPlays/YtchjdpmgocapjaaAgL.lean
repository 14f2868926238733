/- The queue's Push. -/
import Derived.Test.YtchjdpmgocapjaaAgK
namespace Go.Proofs.Ytchjdpmgocapjaa
open Go.RowKit Go.Shelf

theorem ta_one (w : World) (v : Value) : (Instr.typeAssert (.iface 86 v) 20 86 true).run Try.prog w = .ok (.tuple #[v, .bool true]) w := by
  have e3 : (underlying 86).run Try.prog w = .ok (.pointer 88) w := by simp [underlying, go_sem]
  unfold Instr.typeAssert
  simp only [Sem.run_bind, e3, Result.andThen]
  rfl
set_option maxRecDepth 100000 in
set_option maxHeartbeats 4000000 in
theorem qpush_any (A : Nat) (v : Value) (es : List En) (e : En) (at0 : Int) (w : World) (hA : w.cell? ⟨A, 2, none⟩ = some v) (hfA : w.frozen? ⟨A, 2, none⟩ = false) (hZ : QZ w v es) (hE : EnAt w e at0) (hn : es.length + 1 ≤ 1048576) (hne : ∀ k (h : k < es.length), es[k].b ≠ e.b) (hvb : v.ownBlock ≠ some e.b) (hvA : v.ownBlock ≠ some A) (hAe : A ≠ e.b) (hAs : ∀ k (h : k < es.length), es[k].b ≠ A) :
    Calls Try.prog 108 #[.pointer (some ⟨A, 2, none⟩), .iface 86 (.pointer (some ⟨e.b, 0, none⟩))] w fun r w' => (∃ u, r = .returned u) ∧ ∃ g cap, QAt w' g cap (es ++ [e]) ∧ g ≠ A ∧ (v.ownBlock = some g ∨ w.heap.size ≤ g) ∧ w'.cell? ⟨A, 2, none⟩ = some (.slice (some ⟨g, 0, none⟩) (es.length + 1) cap) ∧ Fr (fun b => b = A ∨ b = e.b ∨ v.ownBlock = some b) w w' ∧ ∀ cs t, w.heap[A]? = some (.cells cs t (0, 0)) → w'.heap[A]? = some (.cells (cs.setIfInBounds 2 (.slice (some ⟨g, 0, none⟩) (es.length + 1) cap)) t (0, 0)) := by
  have hAl := World.block_lt_of_cell? w _ hA
  have c3 : w.cell? ⟨e.b, 3, none⟩ = some (.int .i64 at0) := cell_box hE rfl
  have f3 : w.frozen? ⟨e.b, 3, none⟩ = false := free_box hE
  have hbE : e.b < w.heap.size := (Array.getElem?_eq_some_iff.1 hE).1
  obtain ⟨W1, hW1⟩ : ∃ W1, W1 = w.setCell ⟨e.b, 3, none⟩ (.int .i64 es.length) := ⟨_, rfl⟩
  have fr1 : Fr (fun b => b = e.b) w W1 := by rw [hW1]; exact fr_set _ _ _ _
  have hE1 : EnAt W1 e es.length := by rw [hW1]; exact block_set hE (.int .i64 es.length)
  have hA1 : W1.cell? ⟨A, 2, none⟩ = some v := fr1.cell hA hAe
  have b2 := alloc_below0 W1 (.cells #[.pointer (some ⟨e.b, 0, none⟩)] 86)
  have n2 := World.alloc_heap_new W1 (.cells #[.pointer (some ⟨e.b, 0, none⟩)] 86)
  have fr2 : Fr (fun b => b = e.b) w (W1.alloc (.cells #[.pointer (some ⟨e.b, 0, none⟩)] 86)) := fr1.trans (Fr.of_below b2)
  have hZ2 : QZ (W1.alloc (.cells #[.pointer (some ⟨e.b, 0, none⟩)] 86)) v es := by
    rcases hZ with h | ⟨g, cap, rfl, hQ⟩
    · exact .inl h
    · exact .inr ⟨g, cap, rfl, hQ.fr fr2 (fun hx => hvb (by rw [← hx]; rfl)) (fun k hk hx => hne k hk hx)⟩
  obtain ⟨g', c', cur, w3, hr, a1, a2, a3, a4, a5, a6, a7⟩ := run_appQ 80 v es.length _ _ hZ2.own W1.heap.size _ n2 rfl (by omega)
  have HF := hid (push_fin (A := A) hZ (below_blk b2 hE1) fr2 fr2.low.size hne hvb hvA hAl a1 a2 a3 a4 a5 a6 a7)
  have hA3 : w3.cell? ⟨A, 2, none⟩ = some v := a6.cell (fr2.cell hA hAe) hvA
  have fA1 : W1.frozen? ⟨A, 2, none⟩ = false := frozen_fr fr1 hA hAe hfA
  have fA3 : w3.frozen? ⟨A, 2, none⟩ = false := frozen_fr a6 (fr2.cell hA hAe) hvA (frozen_fr fr2 hA hAe hfA)
  have HG : Hid (v.ownBlock = some g' ∨ w.heap.size ≤ g') := hid (a7.imp id (fun h => by rw [h]; exact fr2.low.size))
  have HFR := hid ((fr2.mono (fun b hb => (.inr (.inl hb) : b = A ∨ b = e.b ∨ v.ownBlock = some b))).trans (a6.mono (fun b hb => .inr (.inr hb))))
  have HNA : Hid (∀ k (hk : k < (es ++ [e]).length), ¬ (es ++ [e])[k].b = A) := hid fun k hk hx => by
    by_cases h : k < es.length
    · rw [List.getElem_append_left h] at hx
      exact hAs k h hx
    · have hk' : k = es.length := by simp at hk; omega
      subst hk'
      simp at hx
      exact hAe hx.symm
  have HBX : Hid (∀ cs t, w.heap[A]? = some (.cells cs t (0, 0)) → w3.heap[A]? = some (.cells cs t (0, 0))) := hid fun cs t h => (a6.same A (Nat.lt_of_lt_of_le hAl fr2.low.size) hvA).trans ((fr2.same A hAl hAe).trans h)
  obtain ⟨p, cp, rfl⟩ := hZ.form
  have HAE := hid hAe
  have hA4 := cell_set (v' := .slice (some ⟨g', 0, none⟩) (es.length + 1) c') hA3
  have HA4 := hid hA4
  have hnb : (es.length : Int) + 1 ≤ 1048576 := by omega
  clear hZ hZ2 hE hE1 b2 n2 fr1 fr2 a1 a2 a3 a4 a5 a6 a7 hne hvb hvA hA4 hn hAs
  have hsz1 : W1.heap.size = w.heap.size := by rw [hW1]; simp
  rw [hsz1] at hr
  clear hsz1
  have HR := hid hr
  have HW1 := hid hW1
  clear hr
  rw [hW1] at HR hA1 fA1
  clear hW1
  have hta : (Instr.typeAssert (.iface 86 (.pointer (some ⟨e.b, 0, none⟩))) 20 86 true).run Try.prog w = .ok (.tuple #[.pointer (some ⟨e.b, 0, none⟩), .bool true]) w := ta_one w _
  go_enter Try.func108, Try.ntmps108
  go_wp2_with (first
    | (at_builtin; refine Lib.wpList_append_run _ rfl _ _ _ _ rfl _ _ rfl rfl _ _ HR.out ?_; clear HR)
    | fail)
  refine bodyPost_end (results_none rfl _ _ _) rfl ?_
  exact ⟨⟨_, rfl⟩, g', c', HF.out.1.fr (fr_set _ A 2 _) HF.out.2 HNA.out, HF.out.2, HG.out, HA4.out, HFR.out.trans ((fr_set _ A 2 _).mono (fun q hq => .inl hq)), fun cs t h => block_set (HBX.out cs t (Array.getElem?_eq_some_iff.2 ⟨_, h⟩)) _⟩
end Go.Proofs.Ytchjdpmgocapjaa
