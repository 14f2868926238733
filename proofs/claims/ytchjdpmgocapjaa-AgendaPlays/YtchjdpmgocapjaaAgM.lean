/- The heap's Push. -/
import Derived.Test.YtchjdpmgocapjaaAgL
namespace Go.Proofs.Ytchjdpmgocapjaa
open Go.RowKit Go.Shelf

set_option maxRecDepth 100000 in
set_option maxHeartbeats 4000000 in
theorem hpush_any (A : Nat) (v : Value) (es : List En) (e : En) (at0 : Int) (w : World) (hA : w.cell? ⟨A, 2, none⟩ = some v) (hfA : w.frozen? ⟨A, 2, none⟩ = false) (hZ : QZ w v es) (hE : EnAt w e at0) (hn : es.length + 1 ≤ 1048576) (hne : ∀ k (h : k < es.length), es[k].b ≠ e.b) (hvb : v.ownBlock ≠ some e.b) (hvA : v.ownBlock ≠ some A) (hAe : A ≠ e.b) (hAs : ∀ k (h : k < es.length), es[k].b ≠ A) :
    Calls Try.prog 25 #[.iface 89 (.pointer (some ⟨A, 2, none⟩)), .iface 86 (.pointer (some ⟨e.b, 0, none⟩))] w fun r w' => (∃ u, r = .returned u) ∧ ∃ g cap, QAt w' g cap (upE (es ++ [e]) es.length) ∧ g ≠ A ∧ w'.cell? ⟨A, 2, none⟩ = some (.slice (some ⟨g, 0, none⟩) (es.length + 1) cap) ∧ Fr (fun b => b = A ∨ b = e.b ∨ v.ownBlock = some b ∨ ∃ k, ∃ h : k < es.length, b = es[k].b) w w' ∧ (∀ cs t, w.heap[A]? = some (.cells cs t (0, 0)) → w'.heap[A]? = some (.cells (cs.setIfInBounds 2 (.slice (some ⟨g, 0, none⟩) (es.length + 1) cap)) t (0, 0))) ∧ (v.ownBlock = some g ∨ w.heap.size ≤ g) := by
  have hm := meth_ptr push_row A w
  have HP := hid (qpush_any A v es e at0 w hA hfA hZ hE hn hne hvb hvA hAe hAs)
  have hAl := World.block_lt_of_cell? w _ hA
  have hall : ∀ k (hk : k < (es ++ [e]).length), (es ++ [e])[k].b = e.b ∨ ∃ m, ∃ h : m < es.length, (es ++ [e])[k].b = es[m].b := fun k hk => by
    by_cases h : k < es.length
    · exact .inr ⟨k, h, by rw [List.getElem_append_left h]⟩
    · have hk' : k = es.length := by simp at hk; omega
      subst hk'
      exact .inl (by simp)
  have HALL := hid hall; have HAE := hid hAe; have HAS := hid hAs
  have hlen : (es ++ [e]).length = es.length + 1 := by simp
  have HLEN := hid hlen
  have hnb : (es.length : Int) + 1 ≤ 1048576 := by omega
  clear hA hfA hZ hE hn hne hvb hvA hall hAl hlen hAs hAe
  go_enter Try.func25, Try.ntmps25
  go_wp2_with fail
  refine HP.out.mono ?_
  rintro r w1 ⟨⟨u1, rfl⟩, g, cap, hQ, hgA, hgw, hA1, hf1, hbx⟩
  have hml := meth_val len_row A g (es.length + 1) cap w1 hA1
  have HLN := hid (len_any (some ⟨g, 0, none⟩) (es.length + 1) cap w1)
  have hup := up_any A g cap (es ++ [e]) w1 (by rw [HLEN.out]; exact hA1) hQ es.length (by have := HLEN.out; omega) (fun h => hgA h.symm) (fun k hk hx => by
    rcases HALL.out k hk with h | ⟨m, hm, h⟩
    · exact HAE.out (hx.symm.trans h)
    · exact HAS.out m hm (h.symm.trans hx))
  have HUP := hid hup; have HF1 := hid hf1; have HGA := hid hgA; have HBX := hid hbx
  have HGW := hid hgw
  clear hup hf1 hA1 hQ hm hgw hbx
  go_wp2_with fail
  refine HLN.out.mono ?_
  rintro r w2 ⟨rfl, rfl⟩
  go_wp2_with fail
  refine HUP.out.mono ?_
  rintro r w3 ⟨⟨u3, rfl⟩, hQ3, hA3, hf3⟩
  rw [HLEN.out] at hA3
  have HQ3 := hid hQ3; have HA3 := hid hA3
  have HF3 : Hid (Fr (fun b => b = A ∨ b = e.b ∨ v.ownBlock = some b ∨ ∃ k, ∃ h : k < es.length, b = es[k].b) w w3) := hid ⟨HF1.out.low.trans hf3.low, fun b hb hnb => by
    have h1 := HF1.out.same b hb (fun hx => hnb (hx.elim .inl (fun h => .inr (h.elim .inl (fun h => .inr (.inl h))))))
    refine (hf3.same b (Nat.lt_of_lt_of_le hb HF1.out.low.size) (fun hx => ?_)).trans h1
    rcases hx with hx | ⟨k, hk, hx⟩
    · rcases HGW.out with h | h
      · exact hnb (.inr (.inr (.inl (by rw [hx]; exact h))))
      · omega
    · rcases HALL.out k hk with h | ⟨m, hm, h⟩
      · exact hnb (.inr (.inl (hx.trans h)))
      · exact hnb (.inr (.inr (.inr ⟨m, hm, hx.trans h⟩)))⟩
  have HB3 : Hid (∀ cs t, w.heap[A]? = some (.cells cs t (0, 0)) → w3.heap[A]? = some (.cells (cs.setIfInBounds 2 (.slice (some ⟨g, 0, none⟩) (es.length + 1) cap)) t (0, 0))) := hid fun cs t h => (hf3.same A (Array.getElem?_eq_some_iff.1 (HBX.out cs t h)).1 (fun hx => hx.elim (fun e => HGA.out e.symm) (fun ⟨k, hk, e⟩ => by
    rcases HALL.out k hk with h | ⟨m, hm, h⟩
    · exact HAE.out (e.trans h)
    · exact HAS.out m hm (h.symm.trans e.symm)))).trans (HBX.out cs t h)
  clear hQ3 hA3 hf3 hml
  go_wp2_with fail
  refine bodyPost_end (results_none rfl _ _ _) rfl ?_
  exact ⟨⟨_, rfl⟩, g, cap, HQ3.out, HGA.out, HA3.out, HF3.out, HB3.out, HGW.out⟩
end Go.Proofs.Ytchjdpmgocapjaa
